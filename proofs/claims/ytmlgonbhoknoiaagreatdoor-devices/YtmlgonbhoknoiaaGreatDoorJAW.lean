import Derived.Test.YtmlgonbhoknoiaaGreatDoorJAS
set_option maxHeartbeats 8000000
set_option maxRecDepth 100000
set_option linter.all false
namespace Go.Proofs.YtmlgonbhoknoiaaGreatDoor
open Go.RowKit Go.Proofs.Tryz
section
attribute [local go_sem ↓] Go.wp_at_zero Go.wp_at_succ
def aJ (a:Int):Nat:=if a=50 then 1 else 2
def g7 (b:N)(i:ak)(a:Nat):N:=if i.op=50 then kV b i a (a-2147483648)else if i.op=51 then hU b i a (a-2147483648)else kB b i (a-2147483648)
def i8 (b:N)(i:ak)(a:(Nat×Nat)×P):(Int×Nat)×N:=
 if a.1.2=0 then((-1,0),g7 (b.V7 a.2) i a.1.1)else((a7 a.1.2 (aJ i.op),b.x.getD i.V1 0),b.V7 a.2)
def bI (a:N)(i:ak):(Int×Nat)×N:=
 if a.x.getD i.V1 0%4=0 then i8 a i (cV a.b (S a) (a.x.getD i.V1 0) (aJ i.op))else((h1 (aJ i.op),a.x.getD i.V1 0),a)
def RY (a:Int):((aJ a:Nat):Int)=qW a:=by unfold aJ qW;split<;>rfl
def nR (a:Int):aJ a=0\/aJ a=1\/aJ a=2:=by unfold aJ;split<;>omega
def ags (b d a)(n:af a)(i:ak)(p:aU i)(e:¬a.x.getD i.V1 0%4=0)(f)(c:Hid (E f b d a)):
 an 202 #[I b,ag i] (aS (bI a i).1.1 (bI a i).1.2) [b,d] b d ((bI a i).2) f:=by
 have A:=c.out.lt;have v:=n.WE i.V1;have g:=l (fun W u=>bV b d a i.V1 p.V1 W u);have r:Hid (E ((f.alloc (az i)).alloc (.cells #[j 0,j 0] 118)) b d a):=cD;have k:Hid (∀W,O 273 #[j i.op] (j (aJ i.op)) W):=pb;have w:=nR i.op;unfold az at r;unfold bI;rw[z e];have h:=l (agn (aJ i.op));obtain⟨m,o⟩:=y (a.x.getD i.V1 0);obtain⟨x,q⟩:=y (aJ i.op);simp only[<-o]at g v e|-;simp only[<-q]at k h|-;have F:((m:Int)%4 !=0)=true:=M;unfold ag aS;obtain⟨D,G,H,J,B,C⟩:=i;dsimp only at *;clear n p o q e w;go_enter func202,ntmps202;go_wp2_with(first|(go_at_call 40;refine(g.out _ r).mono ?_;rintro s t ⟨rfl,rfl⟩)|(go_at_call 273;refine(k.out _).mono ?_;rintro s t ⟨rfl,rfl⟩)|(go_at_call 274;refine(h.out _).mono ?_;rintro s t ⟨rfl,rfl⟩));refine ac (v:=.agg #[j (h1 x),j m]) (by simp[results,results202,go_sem]) rfl ⟨rfl,(c.out.alloc _).alloc _,((Kept.refl _ _).alloc _).alloc _⟩
def agu (f h a)(k:af a)(i:ak)(H:aU i)(r:a.x.getD i.V1 0%4=0)(g:¬(a3 a.b (S a) (a.x.getD i.V1 0) (aJ i.op)).1.2=0)(e)(c:Hid (E e f h a)):
 an 202 #[I f,ag i] (aS (bI a i).1.1 (bI a i).1.2) [f,h] f h ((bI a i).2) e:=by
 have ap:=c.out.lt;have aq:=c.out.Ww;have s:=k.WE i.V1;have w:=l (fun W q=>bV f h a i.V1 H.V1 W q);have u:Hid (E ((e.alloc (az i)).alloc (.cells #[j 0,j 0] 118)) f h a):=cD;have x:Hid (∀W,O 273 #[j i.op] (j (aJ i.op)) W):=pb;have K:=nR i.op;unfold az at u;unfold bI;rw[B r];have d:=l (fun W q=>mK f h a k (a.x.getD i.V1 0) (aJ i.op) s K W q);have n:=fA k.b (S a) (a.x.getD i.V1 0) (aJ i.op);have L:=(fW a.b (S a) (a.x.getD i.V1 0) (aJ i.op) s).1;unfold cV;obtain⟨R,A⟩:=y (a3 a.b (S a) (a.x.getD i.V1 0) (aJ i.op));simp only[<-A]at d n L g|-;clear A;obtain⟨⟨U,o⟩,Q⟩:=R;have C:=N.okB k n;have P:=n.o;dsimp only at d n L P C g|-;unfold iN;dsimp only;obtain⟨p,t⟩:=y (a.x.getD i.V1 0);simp only[<-t]at w s r d|-;have ay:((p:Int)%4 !=0)=false:=M;rw[z g];unfold i8;dsimp only;rw[z g,<-t];simp only[tp ((U,o),Q) p (aJ i.op) g]at d;try dsimp only at d
 have T:=jo o (aJ i.op);obtain⟨V,D⟩:=y (a7 o (aJ i.op));simp only[<-D]at d T|-;obtain⟨au,J⟩:=y (aJ i.op);simp only[<-J]at x d|-;unfold ag aS;obtain⟨ax,aA,aC,aD,ar,aw⟩:=i;dsimp only at *;clear k H t J r K g D C n P c;go_enter func202,ntmps202;go_wp2_with(first|(go_at_call 40;refine(w.out _ u).mono ?_;rintro v ao ⟨rfl,rfl⟩)|(go_at_call 273;refine(x.out _).mono ?_;rintro v ao ⟨rfl,rfl⟩));refine(d.out _ u).mono ?_;rintro v am ⟨rfl,G,b⟩;obtain⟨X,Y,aB,ae,ah,Z,ai,aa,aj,ab,al,ad⟩:av am (e.heap.size+1) 0 0:=ih;go_wp2_with(first|(go_at_call 83;refine(cd _ _ _).mono ?_;rintro v aE ⟨rfl,rfl⟩));exact Ke
def agw (d f a)(q:af a)(i:ak)(Q:aU i)(w:a.x.getD i.V1 0%4=0)(t:(a3 a.b (S a) (a.x.getD i.V1 0) (aJ i.op)).1.2=0)(k:a1 ((a3 a.b (S a) (a.x.getD i.V1 0) (aJ i.op)).1.1:Nat) 4 (a3 a.b (S a) (a.x.getD i.V1 0) (aJ i.op)).2.o.length=false)(e)(c:Hid (E e d f a)):
 an 202 #[I d,ag i] (aS (bI a i).1.1 (bI a i).1.2) [d,f] d f ((bI a i).2) e:=by
 have aw:=c.out.lt;have ax:=c.out.Ww;have x:=q.WE i.V1;have H:=l (fun W v=>bV d f a i.V1 Q.V1 W v);have C:Hid (E ((e.alloc (az i)).alloc (.cells #[j 0,j 0] 118)) d f a):=cD;have J:Hid (∀W,O 273 #[j i.op] (j (aJ i.op)) W):=pb;have T:=nR i.op;unfold az at C;unfold bI;rw[B w];have n:=l (fun W v=>mK d f a q (a.x.getD i.V1 0) (aJ i.op) x T W v);have r:=fA q.b (S a) (a.x.getD i.V1 0) (aJ i.op);have U:=(fW a.b (S a) (a.x.getD i.V1 0) (aJ i.op) x).1;unfold cV;obtain⟨ao,K⟩:=y (a3 a.b (S a) (a.x.getD i.V1 0) (aJ i.op));simp only[<-K]at n r U t k|-;clear K;obtain⟨⟨h,au⟩,g⟩:=ao;have L:=N.okB q r;have o:=r.o;dsimp only at n r U o L t k|-;unfold iN;dsimp only;obtain⟨p,A⟩:=y (a.x.getD i.V1 0);simp only[<-A]at H x w n|-;have aD:((p:Int)%4 !=0)=false:=M;rw[B t,z (by rw[k];simp)];subst t;unfold i8;dsimp only;rw[z (by simp),<-A];simp only[mD ((h,0),g) p (aJ i.op) rfl]at n;try dsimp only at n
 have am:Hid (∀W,Hid (E W d f (a.V7 g))->O 262 #[I d,j h,j 4] (.bool false) W):=uW;have u:Hid (∀W,O 275 #[j 2,j (aJ i.op)] (j (a7 2 (aJ i.op))) W):=l (fun W=>tF 2 (aJ i.op) W);have ap:a7 ((2:Nat):Int) (aJ i.op)=a7 2 (aJ i.op):=rfl;rw[ap];obtain⟨V,P⟩:=y (a7 2 (aJ i.op));simp only[<-P]at u|-;obtain⟨aA,R⟩:=y (aJ i.op);simp only[<-R]at J n u|-;unfold ag aS;obtain⟨aC,aE,aG,aH,ay,aB⟩:=i;dsimp only at *;clear q Q A R w T P L r o c k;go_enter func202,ntmps202;go_wp2_with(first|(go_at_call 40;refine(H.out _ C).mono ?_;rintro s D ⟨rfl,rfl⟩)|(go_at_call 273;refine(J.out _).mono ?_;rintro s D ⟨rfl,rfl⟩));refine(n.out _ C).mono ?_;rintro s ar ⟨rfl,G,b⟩;obtain⟨X,Y,aF,ae,ah,Z,ai,aa,aj,ab,al,ad⟩:av ar (e.heap.size+1) 0 0:=ih;have aq:=l ((G.alloc (.cells #[j (-1),j 0] 118)).alloc (.cells #[j (-1),j 0] 118));go_wp2_with(first|(go_at_call 83;refine(cd _ _ _).mono ?_;rintro s aI ⟨rfl,rfl⟩)|(go_at_call 262;refine(am.out _ aq).mono ?_;rintro s D ⟨rfl,rfl⟩)|(go_at_call 275;refine(u.out _).mono ?_;rintro s D ⟨rfl,rfl⟩));exact Ke
def agv (d f a)(u:af a)(i:ak)(C:aU i)(Z:i.op=50)(x:a.x.getD i.V1 0%4=0)(w:(a3 a.b (S a) (a.x.getD i.V1 0) (aJ i.op)).1.2=0)(k:a1 ((a3 a.b (S a) (a.x.getD i.V1 0) (aJ i.op)).1.1:Nat) 4 (a3 a.b (S a) (a.x.getD i.V1 0) (aJ i.op)).2.o.length=true)(n)(c:Hid (E n d f a)):
 an 202 #[I d,ag i] (aS (bI a i).1.1 (bI a i).1.2) [d,f] d f ((bI a i).2) n:=by
 have ax:=c.out.lt;have ay:=c.out.Ww;have A:=u.WE i.V1;have G:=l (fun W t=>bV d f a i.V1 C.V1 W t);have D:Hid (E ((n.alloc (az i)).alloc (.cells #[j 0,j 0] 118)) d f a):=cD;have H:Hid (∀W,O 273 #[j i.op] (j (aJ i.op)) W):=pb;have X:=nR i.op;unfold az at D;unfold bI;rw[B x];have r:=l (fun W t=>mK d f a u (a.x.getD i.V1 0) (aJ i.op) A X W t);have v:=fA u.b (S a) (a.x.getD i.V1 0) (aJ i.op);have aa:=(fW a.b (S a) (a.x.getD i.V1 0) (aJ i.op) A).1;unfold cV;obtain⟨ah,R⟩:=y (a3 a.b (S a) (a.x.getD i.V1 0) (aJ i.op));simp only[<-R]at r v aa w k|-;clear R;obtain⟨⟨h,aw⟩,g⟩:=ah;have z:=N.okB u v;have o:=v.o;dsimp only at r v aa o z w k|-;unfold iN;dsimp only;obtain⟨P,U⟩:=y (a.x.getD i.V1 0);simp only[<-U]at G A x r|-;have aY:((P:Int)%4 !=0)=false:=M;rw[B w,B k];subst w;unfold i8;dsimp only;rw[B rfl];obtain⟨ai,aj⟩:=jR k;simp only[mD ((h,0),g) P (aJ i.op) rfl]at r;try dsimp only at r
 have K:Hid (∀W,Hid (E W d f (a.V7 g))->O 262 #[I d,j h,j 4] (.bool true) W):=uW;obtain⟨p,ad⟩:=y (h-2147483648);have ab:h=2147483648+p:=J;have Y:p+4<=(a.V7 g).b.o.length:=y5;have Q:g7 (a.V7 g) i h=kV (a.V7 g) i h p:=by unfold g7;rw[<-ad];rw[B Z]
 rw[Q];have q:=l (fun W t=>ag9 d f (a.V7 g) z i C h p ab Y W t);obtain⟨au,T⟩:=y (kV (a.V7 g) i h p);simp only[<-T]at q|-;obtain⟨aW,V⟩:=y (aJ i.op);simp only[<-V]at H r;unfold ag at q;unfold ag aS;obtain⟨aX,ao,ap,aq,al,am⟩:=i;dsimp only at *;subst Z;clear u C U V x X z v o c k ab Y Q T ad ai aj;go_enter func202,ntmps202;go_wp2_with(first|(go_at_call 40;refine(G.out _ D).mono ?_;rintro ae ar ⟨rfl,rfl⟩)|(go_at_call 273;refine(H.out _).mono ?_;rintro ae ar ⟨rfl,rfl⟩));refine(r.out _ D).mono ?_;rintro ae s ⟨rfl,L,b⟩;obtain⟨aA,aB,aC,aD,aE,aF,aG,aO,aP,aH,aQ,aI,aT,aM,aV,aN⟩:a8 s n.heap.size 50 ao ap aq al am:=jC;exact Ab
theorem aiM (b d a)(g:af a)(i:ak)(h:aU i)(c p:Nat)(l:c=2147483648+p)(k:p+4<=a.b.o.length)(e)(m:Hid (E e b d a)):
 an 277 #[I b,ag i,j c] (.tuple #[]) [b,d] b d (hU a i c p) e:=by
 cases f:hT a c with
 |true=>exact aiN b d a g i h c p l k f e m
 |false=>exact aiO b d a g i h c p l k f e m
def agx (d f a)(u:af a)(i:ak)(D:aU i)(aa:i.op=51)(x:a.x.getD i.V1 0%4=0)(w:(a3 a.b (S a) (a.x.getD i.V1 0) (aJ i.op)).1.2=0)(k:a1 ((a3 a.b (S a) (a.x.getD i.V1 0) (aJ i.op)).1.1:Nat) 4 (a3 a.b (S a) (a.x.getD i.V1 0) (aJ i.op)).2.o.length=true)(n)(c:Hid (E n d f a)):
 an 202 #[I d,ag i] (aS (bI a i).1.1 (bI a i).1.2) [d,f] d f ((bI a i).2) n:=by
 have ay:=c.out.lt;have aA:=c.out.Ww;have C:=u.WE i.V1;have H:=l (fun W t=>bV d f a i.V1 D.V1 W t);have G:Hid (E ((n.alloc (az i)).alloc (.cells #[j 0,j 0] 118)) d f a):=cD;have P:Hid (∀W,O 273 #[j i.op] (j (aJ i.op)) W):=pb;have Y:=nR i.op;unfold az at G;unfold bI;rw[B x];have r:=l (fun W t=>mK d f a u (a.x.getD i.V1 0) (aJ i.op) C Y W t);have v:=fA u.b (S a) (a.x.getD i.V1 0) (aJ i.op);have ab:=(fW a.b (S a) (a.x.getD i.V1 0) (aJ i.op) C).1;unfold cV;obtain⟨ai,T⟩:=y (a3 a.b (S a) (a.x.getD i.V1 0) (aJ i.op));simp only[<-T]at r v ab w k|-;clear T;obtain⟨⟨h,ax⟩,g⟩:=ai;have A:=N.okB u v;have o:=v.o;dsimp only at r v ab o A w k|-;unfold iN;dsimp only;obtain⟨Q,V⟩:=y (a.x.getD i.V1 0);simp only[<-V]at H C x r|-;have aZ:((Q:Int)%4 !=0)=false:=M;rw[B w,B k];subst w;unfold i8;dsimp only;rw[B rfl];obtain⟨aj,al⟩:=jR k;simp only[mD ((h,0),g) Q (aJ i.op) rfl]at r;try dsimp only at r
 have K:Hid (∀W,Hid (E W d f (a.V7 g))->O 262 #[I d,j h,j 4] (.bool true) W):=uW;obtain⟨p,ae⟩:=y (h-2147483648);have ad:h=2147483648+p:=J;have Z:p+4<=(a.V7 g).b.o.length:=y5;have R:g7 (a.V7 g) i h=hU (a.V7 g) i h p:=by unfold g7;rw[<-ae];rw[z (by omega),B aa]
 rw[R];have q:=l (fun W t=>aiM d f (a.V7 g) A i D h p ad Z W t);obtain⟨aw,U⟩:=y (hU (a.V7 g) i h p);simp only[<-U]at q|-;obtain⟨aX,X⟩:=y (aJ i.op);simp only[<-X]at P r;unfold ag at q;unfold ag aS;obtain⟨aY,ap,aq,ar,am,ao⟩:=i;dsimp only at *;subst aa;clear u D V X x Y A v o c k ad Z R U ae aj al;go_enter func202,ntmps202;go_wp2_with(first|(go_at_call 40;refine(H.out _ G).mono ?_;rintro ah au ⟨rfl,rfl⟩)|(go_at_call 273;refine(P.out _).mono ?_;rintro ah au ⟨rfl,rfl⟩));refine(r.out _ G).mono ?_;rintro ah s ⟨rfl,L,b⟩;obtain⟨aB,aC,aD,aE,aF,aG,aH,aP,aQ,aI,aT,aM,aV,aN,aW,aO⟩:a8 s n.heap.size 51 ap aq ar am ao:=jC;exact Ab
def agt (d f a)(u:af a)(i:ak)(D:aU i)(ab:52<=i.op/\i.op<=60)(x:a.x.getD i.V1 0%4=0)(w:(a3 a.b (S a) (a.x.getD i.V1 0) (aJ i.op)).1.2=0)(k:a1 ((a3 a.b (S a) (a.x.getD i.V1 0) (aJ i.op)).1.1:Nat) 4 (a3 a.b (S a) (a.x.getD i.V1 0) (aJ i.op)).2.o.length=true)(n)(c:Hid (E n d f a)):
 an 202 #[I d,ag i] (aS (bI a i).1.1 (bI a i).1.2) [d,f] d f ((bI a i).2) n:=by
 have aA:=c.out.lt;have aB:=c.out.Ww;have C:=u.WE i.V1;have P:=l (fun W t=>bV d f a i.V1 D.V1 W t);have G:Hid (E ((n.alloc (az i)).alloc (.cells #[j 0,j 0] 118)) d f a):=cD;have Q:Hid (∀W,O 273 #[j i.op] (j (aJ i.op)) W):=pb;have Z:=nR i.op;unfold az at G;unfold bI;rw[B x];have r:=l (fun W t=>mK d f a u (a.x.getD i.V1 0) (aJ i.op) C Z W t);have v:=fA u.b (S a) (a.x.getD i.V1 0) (aJ i.op);have ad:=(fW a.b (S a) (a.x.getD i.V1 0) (aJ i.op) C).1;unfold cV;obtain⟨aj,U⟩:=y (a3 a.b (S a) (a.x.getD i.V1 0) (aJ i.op));simp only[<-U]at r v ad w k|-;clear U;obtain⟨⟨h,ay⟩,g⟩:=aj;have A:=N.okB u v;have o:=v.o;dsimp only at r v ad o A w k|-;unfold iN;dsimp only;obtain⟨R,X⟩:=y (a.x.getD i.V1 0);simp only[<-X]at P C x r|-;have aZ:((R:Int)%4 !=0)=false:=M;rw[B w,B k];subst w;unfold i8;dsimp only;rw[B rfl];obtain⟨al,am⟩:=jR k;simp only[mD ((h,0),g) R (aJ i.op) rfl]at r;try dsimp only at r
 have K:Hid (∀W,Hid (E W d f (a.V7 g))->O 262 #[I d,j h,j 4] (.bool true) W):=uW;obtain⟨p,ah⟩:=y (h-2147483648);have ae:h=2147483648+p:=J;have aa:p+4<=(a.V7 g).b.o.length:=y5;have T:g7 (a.V7 g) i h=kB (a.V7 g) i p:=by unfold g7;rw[<-ah];rw[z (by omega),z (by omega)]
 rw[T];have q:=l (fun W t=>ahm d f (a.V7 g) A i D h p ae aa ab W t);obtain⟨ax,V⟩:=y (kB (a.V7 g) i p);simp only[<-V]at q|-;obtain⟨aY,Y⟩:=y (aJ i.op);simp only[<-Y]at Q r;unfold ag at q;unfold ag aS;obtain⟨H,aq,ar,au,ao,ap⟩:=i;dsimp only at *;have a0:(H==50)=false:=M;have a2:(H==51)=false:=M;clear u D X Y x Z A v o c k ae aa T V ah al am ab;go_enter func202,ntmps202;go_wp2_with(first|(go_at_call 40;refine(P.out _ G).mono ?_;rintro ai aw ⟨rfl,rfl⟩)|(go_at_call 273;refine(Q.out _).mono ?_;rintro ai aw ⟨rfl,rfl⟩));refine(r.out _ G).mono ?_;rintro ai s ⟨rfl,L,b⟩;obtain⟨aC,aD,aE,aF,aG,aH,aI,aQ,aT,aM,aV,aN,aW,aO,aX,aP⟩:a8 s n.heap.size H aq ar au ao ap:=jC;exact Ab
theorem agq (b c a)(f:af a)(i:ak)(g:aU i)(o:50<=i.op/\i.op<=60)(d)(h:Hid (E d b c a)):
 an 202 #[I b,ag i] (aS (bI a i).1.1 (bI a i).1.2) [b,c] b c ((bI a i).2) d:=by
 by_cases e:a.x.getD i.V1 0%4=0
 . by_cases j:(a3 a.b (S a) (a.x.getD i.V1 0) (aJ i.op)).1.2=0
   . cases k:a1 ((a3 a.b (S a) (a.x.getD i.V1 0) (aJ i.op)).1.1:Nat) 4 (a3 a.b (S a) (a.x.getD i.V1 0) (aJ i.op)).2.o.length with
     |false=>exact agw b c a f i g e j k d h
     |true=>
      by_cases l:i.op=50
      . exact agv b c a f i g l e j k d h
      by_cases n:i.op=51
      . exact agx b c a f i g n e j k d h
      exact agt b c a f i g m e j k d h
   . exact agu b c a f i g e j d h
 . exact ags b c a f i g e d h
def bT (b:N)(a:Int)(c:Nat):N:=if 256<=a/\a<=511 then eZ b a c else if 768<=a/\a<=1023 then eu b a c else hs b a c
theorem tE (b g c)(k:af c)(a:Int)(d:Nat)(o:G d)(h)(m:Hid (E h b g c)):
 an 280 #[.pointer (some ⟨b,38,none⟩),j a,j d] (.tuple #[]) [b] b g (bT c a d) h:=by
 have q:=l (ajs b g c k a d o h m);have p:=l (aje b g c k a d o h m);have v:=l (ai8 b g c k a d o h m);unfold bT;clear k m;by_cases i:256<=a/\a<=511
 . rw[B i];obtain⟨r,s⟩:=i;have w:decide (256<=a)=true:=by simp[r]
   have x:decide (a<=511)=true:=by simp[s]
   go_enter func280,ntmps280;go_wp2_with(go_at_call 351;refine q.out.mono ?_;rintro t u ⟨rfl,f,e⟩);go_end0;exact⟨rfl,f,e⟩
 rw[z i];by_cases n:768<=a/\a<=1023
 . rw[B n];obtain⟨r,s⟩:=n;have w:decide (256<=a)=true:=M;have x:decide (a<=511)=false:=M;clear i;go_enter func280,ntmps280;go_wp2_with(go_at_call 352;refine p.out.mono ?_;rintro t u ⟨rfl,f,e⟩);go_end0;exact⟨rfl,f,e⟩
 rw[z n];clear q p;go_enter func280,ntmps280;go_wp2_with(go_at_call 353;refine v.out.mono ?_;rintro t u ⟨rfl,f,e⟩);all_goals first
  | (exfalso;omega)
  | (go_end0;exact⟨rfl,f,e⟩)
def aao (a:N)(b:af a)(d:Int):(bQ a d).1<4294967296:=by
 have e:=b.V5;have f:=b.Wd;have g:=b.WH;have h:=b.WA;have i:=b.WR;have j:=b.Wu;have k:=b.WD;have l:=b.WI;have m:=b.Wf;have p:=qj a b;have n:(a.c.V5&&&786722)<=a.c.V5:=gO;have o:(a.c.Wd&&&a.c.V9)<=a.c.Wd:=gO;have q:(dV a&&&a.c.V9)<=dV a:=gO;unfold bQ;repeat' split
 all_goals first|(dsimp only;omega)|omega|(show(0:Nat)<_;omega)|(show(1075056901:Nat)<_;omega)|(rename_i c;split at c<;>simp_all)
def hc {c:Prop}[Decidable c]{a b:Nat×Bool}(d:G a.1)(e:G b.1):(if c then a else b).1<4294967296:=by split<;>assumption
def S8 (b:N)(a:af b)(e:Int):(bO b e).1<4294967296:=by
 have c:=a.Wp;have d:=a.W8;have p:=qj b a;unfold bO;refine hc a.V5 (hc R (hc a.WG (hc a.V9 (hc a.Wd (hc a.Wz (hc (jw c R) (hc (jw d R) (hc a.WK (hc a.Wm (hc a.Wx (hc a.WB (hc (jw p R) (show(0:Nat)<4294967296 by decide)))))))))))))
def PJ (b:N)(a:af b)(d:Nat):(bH b d).1<4294967296:=by
 have e:=a.Wy;have f:=a.WN;have g:=a.ret;have h:=a.We;have i:=a.b.time;have j:=a.b.Wh;unfold bH b9;repeat' split
 all_goals first|(dsimp only;omega)|omega|(show(0:Nat)<_;omega)|(show(1075056901:Nat)<_;omega)|(rename_i c;split at c<;>simp_all)
def k0 (a:N)(b:af a)(c:Int):(aA a c).1<4294967296:=by
 unfold aA;repeat' split
 . exact aao a b c
 . exact S8 a b c
 . exact PJ a b _
 . dsimp only;omega
def pX (e:Int)(a b:Nat)(c:G a)(d:G b):ev e a b<4294967296:=by
 unfold ev;repeat' split
 . exact fu a b 32 c d
 . exact bL (h0 _ _) c
 . exact d
def di (a:N)(i:ak):Nat:=if i.op<=63 then a.x.getD i.V1 0 else i.V1
def dS (a:N)(i:ak):N:=
 if cW i=true then bT (a6 a i.rd (aA a i.V2).1) i.V2 (ev i.op (if i.V2=836 then a.c.Wo else(aA a i.V2).1) (di a i))else a6 a i.rd (aA a i.V2).1
def N.Yp {b:N}(a:af b)(c d:Nat)(e:G d):af (a6 b c d):=by
 unfold a6;split
 . exact a
 . refine⟨a.b,by simpa using a.x,?_,a.V3,a.mode,a.V5,a.Wf,a.Wd,a.Wo,a.WG,a.V9,a.Wz,a.Wp,a.W8,a.WK,a.Wm,a.Wx,a.WB,a.WH,a.WA,a.WR,a.Wu,a.WD,a.WI,a.Wy,a.WN,a.ret,a.We,a.WU,a.Wl⟩;intro i;dsimp only;by_cases hd:c<32
   . rw[B0 b.x c i d a.x hd];split
     . exact e
     . exact a.WE i
   . rw[List.set_eq_of_length_le (by rw[a.x];omega)];exact a.WE i
def agS (g n c)(d:af c)(i:ak)(m:aU i)(v:i.op<=63)(q:cW i=false)(f)(a:Hid (E f g n c)):
 an 204 #[I g,ag i] (.tuple #[]) [g] g n (dS c i) f:=by
 have T:=a.out.lt;have O:=l (fun W s=>bV g n c i.V1 m.V1 W s);have p:Hid (E (f.alloc (az i)) g n c):=b7;have o:=l (fun W s=>j4 g n c d i.V2 W s);have k:=k0 c d i.V2;have A:G (di c i):=by
  unfold di;split
  . exact d.WE _
  . have:=m.V1;omega
 have P:=d.Wo;have j:=l (fun W=>j5 i W);unfold dS;have D:=N.Yp d i.rd (aA c i.V2).1 k;have h:=l (fun W s=>fZ g n c d.x i.rd (aA c i.V2).1 m.rd W s);simp only[q]at j;rw[z (by rw[q];simp)];have C:di c i=c.x.getD i.V1 0:=y6;rw[C]at A;obtain⟨⟨M,S⟩,w⟩:∃r,r=aA c i.V2:=⟨_,rfl⟩;simp only[<-w]at o k D h  |-;try dsimp only at o k D h  |-
 unfold az at p j;unfold ag at j|-;have Q:(a6 c i.rd M).c.Wo=c.c.Wo:=lM;obtain⟨t,u,K,L,H,J⟩:=i;dsimp only at *;obtain⟨R,x⟩:=y (a6 c u M);simp only[<-x]at h D Q  |-;have U:decide (t<=63)=true:=by simp[v]
 exact Kl
def agT (m M d)(c:af d)(i:ak)(p:aU i)(v:i.op<=63)(x:cW i=true)(A:¬i.V2=836)(k)(a:Hid (E k m M d)):
 an 204 #[I m,ag i] (.tuple #[]) [m] m M (dS d i) k:=by
 have ab:=a.out.lt;have X:=l (fun W J=>bV m M d i.V1 p.V1 W J);have C:Hid (E (k.alloc (az i)) m M d):=b7;have t:=l (fun W J=>j4 m M d c i.V2 W J);have g:=k0 d c i.V2;have q:G (di d i):=by
  unfold di;split
  . exact c.WE _
  . have:=p.V1;omega
 have Y:=c.Wo;have o:=l (fun W=>j5 i W);unfold dS;have Q:=N.Yp c i.rd (aA d i.V2).1 g;have n:=l (fun W J=>fZ m M d c.x i.rd (aA d i.V2).1 p.rd W J);simp only[x]at o;rw[B x,z A];have w:di d i=d.x.getD i.V1 0:=y6;rw[w]at q;rw[w];have s:=l (tD i.op (aA d i.V2).1 (d.x.getD i.V1 0) g q);have u:=pX i.op (aA d i.V2).1 (d.x.getD i.V1 0) g q;have f:=l (fun W J=>tE m M (a6 d i.rd (aA d i.V2).1) Q i.V2 (ev i.op (aA d i.V2).1 (d.x.getD i.V1 0)) u W J);obtain⟨ac,V⟩:=y (ev i.op (aA d i.V2).1 (d.x.getD i.V1 0));simp only[<-V]at s f u|-;clear V;obtain⟨⟨R,aa⟩,K⟩:∃r,r=aA d i.V2:=⟨_,rfl⟩;simp only[<-K]at t g Q n s f|-;try dsimp only at t g Q n s f|-
 unfold az at C o;unfold ag at o|-;have O:(a6 d i.rd R).c.Wo=d.c.Wo:=lM;obtain⟨D,H,T,U,P,S⟩:=i;dsimp only at *;obtain⟨Z,L⟩:=y (a6 d H R);simp only[<-L]at n Q O s f|-;have ad:decide (D<=63)=true:=by simp[v]
 exact Kn
def agR (z M d)(c:af d)(i:ak)(p:aU i)(v:i.op<=63)(x:cW i=true)(A:i.V2=836)(k)(a:Hid (E k z M d)):
 an 204 #[I z,ag i] (.tuple #[]) [z] z M (dS d i) k:=by
 have ab:=a.out.lt;have X:=l (fun W J=>bV z M d i.V1 p.V1 W J);have C:Hid (E (k.alloc (az i)) z M d):=b7;have t:=l (fun W J=>j4 z M d c i.V2 W J);have g:=k0 d c i.V2;have q:G (di d i):=by
  unfold di;split
  . exact c.WE _
  . have:=p.V1;omega
 have Y:=c.Wo;have o:=l (fun W=>j5 i W);unfold dS;have Q:=N.Yp c i.rd (aA d i.V2).1 g;have n:=l (fun W J=>fZ z M d c.x i.rd (aA d i.V2).1 p.rd W J);simp only[x]at o;rw[B x,B A];have w:di d i=d.x.getD i.V1 0:=y6;rw[w]at q;rw[w];have s:=l (tD i.op d.c.Wo (d.x.getD i.V1 0) m q);have u:=pX i.op d.c.Wo (d.x.getD i.V1 0) m q;have f:=l (fun W J=>tE z M (a6 d i.rd (aA d i.V2).1) Q i.V2 (ev i.op d.c.Wo (d.x.getD i.V1 0)) u W J);obtain⟨ac,V⟩:=y (ev i.op d.c.Wo (d.x.getD i.V1 0));simp only[<-V]at s f u|-;clear V;obtain⟨⟨R,aa⟩,K⟩:∃r,r=aA d i.V2:=⟨_,rfl⟩;simp only[<-K]at t g Q n f|-;try dsimp only at t g Q n f|-
 unfold az at C o;unfold ag at o|-;have O:(a6 d i.rd R).c.Wo=d.c.Wo:=lM;obtain⟨D,H,T,U,P,S⟩:=i;dsimp only at *;obtain⟨Z,L⟩:=y (a6 d H R);simp only[<-L]at n Q O f|-;have ad:decide (D<=63)=true:=by simp[v]
 exact Ko
def agP (g n c)(d:af c)(i:ak)(m:aU i)(v:¬i.op<=63)(q:cW i=false)(f)(a:Hid (E f g n c)):
 an 204 #[I g,ag i] (.tuple #[]) [g] g n (dS c i) f:=by
 have T:=a.out.lt;have O:=l (fun W s=>bV g n c i.V1 m.V1 W s);have p:Hid (E (f.alloc (az i)) g n c):=b7;have o:=l (fun W s=>j4 g n c d i.V2 W s);have k:=k0 c d i.V2;have A:G (di c i):=by
  unfold di;split
  . exact d.WE _
  . have:=m.V1;omega
 have P:=d.Wo;have j:=l (fun W=>j5 i W);unfold dS;have B:=N.Yp d i.rd (aA c i.V2).1 k;have h:=l (fun W s=>fZ g n c d.x i.rd (aA c i.V2).1 m.rd W s);simp only[q]at j;rw[z (by rw[q];simp)];have C:di c i=i.V1:=y7;rw[C]at A;obtain⟨⟨D,S⟩,w⟩:∃r,r=aA c i.V2:=⟨_,rfl⟩;simp only[<-w]at o k B h  |-;try dsimp only at o k B h  |-
 unfold az at p j;unfold ag at j|-;have Q:(a6 c i.rd D).c.Wo=c.c.Wo:=lM;obtain⟨t,u,K,L,H,J⟩:=i;dsimp only at *;obtain⟨R,x⟩:=y (a6 c u D);simp only[<-x]at h B Q  |-;have U:decide (t<=63)=false:=M;exact Kl
def agQ (m Q d)(c:af d)(i:ak)(p:aU i)(v:¬i.op<=63)(x:cW i=true)(A:¬i.V2=836)(k)(a:Hid (E k m Q d)):
 an 204 #[I m,ag i] (.tuple #[]) [m] m Q (dS d i) k:=by
 have ac:=a.out.lt;have X:=l (fun W J=>bV m Q d i.V1 p.V1 W J);have C:Hid (E (k.alloc (az i)) m Q d):=b7;have t:=l (fun W J=>j4 m Q d c i.V2 W J);have g:=k0 d c i.V2;have q:G (di d i):=by
  unfold di;split
  . exact c.WE _
  . have:=p.V1;omega
 have Y:=c.Wo;have o:=l (fun W=>j5 i W);unfold dS;have R:=N.Yp c i.rd (aA d i.V2).1 g;have n:=l (fun W J=>fZ m Q d c.x i.rd (aA d i.V2).1 p.rd W J);simp only[x]at o;rw[B x,z A];have w:di d i=i.V1:=y7;rw[w]at q;rw[w];have s:=l (tD i.op (aA d i.V2).1 (i.V1) g q);have u:=pX i.op (aA d i.V2).1 (i.V1) g q;have f:=l (fun W J=>tE m Q (a6 d i.rd (aA d i.V2).1) R i.V2 (ev i.op (aA d i.V2).1 (i.V1)) u W J);obtain⟨ad,Z⟩:=y (ev i.op (aA d i.V2).1 (i.V1));simp only[<-Z]at s f u|-;clear Z;obtain⟨⟨V,ab⟩,K⟩:∃r,r=aA d i.V2:=⟨_,rfl⟩;simp only[<-K]at t g R n s f|-;try dsimp only at t g R n s f|-
 unfold az at C o;unfold ag at o|-;have O:(a6 d i.rd V).c.Wo=d.c.Wo:=lM;obtain⟨D,H,T,U,P,S⟩:=i;dsimp only at *;obtain⟨aa,L⟩:=y (a6 d H V);simp only[<-L]at n R O s f|-;have ae:decide (D<=63)=false:=M;exact Kn
def agO (J R d)(c:af d)(i:ak)(p:aU i)(v:¬i.op<=63)(x:cW i=true)(A:i.V2=836)(k)(a:Hid (E k J R d)):
 an 204 #[I J,ag i] (.tuple #[]) [J] J R (dS d i) k:=by
 have ad:=a.out.lt;have X:=l (fun W Q=>bV J R d i.V1 p.V1 W Q);have C:Hid (E (k.alloc (az i)) J R d):=b7;have t:=l (fun W Q=>j4 J R d c i.V2 W Q);have g:=k0 d c i.V2;have q:G (di d i):=by
  unfold di;split
  . exact c.WE _
  . have:=p.V1;omega
 have Y:=c.Wo;have o:=l (fun W=>j5 i W);unfold dS;have V:=N.Yp c i.rd (aA d i.V2).1 g;have n:=l (fun W Q=>fZ J R d c.x i.rd (aA d i.V2).1 p.rd W Q);simp only[x]at o;rw[B x,B A];have w:di d i=i.V1:=y7;rw[w]at q;rw[w];have s:=l (tD i.op d.c.Wo (i.V1) m q);have u:=pX i.op d.c.Wo (i.V1) m q;have f:=l (fun W Q=>tE J R (a6 d i.rd (aA d i.V2).1) V i.V2 (ev i.op d.c.Wo (i.V1)) u W Q);obtain⟨ae,aa⟩:=y (ev i.op d.c.Wo (i.V1));simp only[<-aa]at s f u|-;clear aa;obtain⟨⟨Z,ac⟩,K⟩:∃r,r=aA d i.V2:=⟨_,rfl⟩;simp only[<-K]at t g V n f|-;try dsimp only at t g V n f|-
 unfold az at C o;unfold ag at o|-;have O:(a6 d i.rd Z).c.Wo=d.c.Wo:=lM;obtain⟨D,H,T,U,P,S⟩:=i;dsimp only at *;obtain⟨ab,L⟩:=y (a6 d H Z);simp only[<-L]at n V O f|-;have ah:decide (D<=63)=false:=M;exact Ko
theorem agN (a c b)(f:af b)(i:ak)(g:aU i)(d)(j:Hid (E d a c b)):
 an 204 #[I a,ag i] (.tuple #[]) [a] a c (dS b i) d:=by
 by_cases h:i.op<=63
 . cases e:cW i with
   |false=>exact agS a c b f i g h e d j
   |true=>
    by_cases k:i.V2=836
    . exact agR a c b f i g h e k d j
    . exact agT a c b f i g h e k d j
 . cases e:cW i with
   |false=>exact agP a c b f i g h e d j
   |true=>
    by_cases k:i.V2=836
    . exact agO a c b f i g h e k d j
    . exact agQ a c b f i g h e k d j
end
end Go.Proofs.YtmlgonbhoknoiaaGreatDoor
