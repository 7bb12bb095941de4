import Derived.Test.YtmlgonbhoknoiabGreatDoorJAS
set_option maxHeartbeats 8000000
set_option maxRecDepth 100000
set_option linter.all false
namespace Go.Proofs.YtmlgonbhoknoiabGreatDoor
open Go.RowKit Go.Proofs.Tryz
section
attribute [local go_sem ↓] Go.wp_at_zero Go.wp_at_succ
def aJ (a:Int):Nat:=if a=50 then 1 else 2
def g6 (b:N)(i:ak)(a:Nat):N:=if i.op=50 then kW b i a (a-2147483648)else if i.op=51 then hU b i a (a-2147483648)else kG b i (a-2147483648)
def jb (b:N)(i:ak)(a:(Nat×Nat)×P):(Int×Nat)×N:=
 if a.1.2=0 then((-1,0),g6 (b.V7 a.2) i a.1.1)else((a6 a.1.2 (aJ i.op),b.x.getD i.V1 0),b.V7 a.2)
def bG (a:N)(i:ak):(Int×Nat)×N:=
 if a.x.getD i.V1 0%4=0 then jb a i (cS a.b (S a) (a.x.getD i.V1 0) (aJ i.op))else((h1 (aJ i.op),a.x.getD i.V1 0),a)
def RV (a:Int):((aJ a:Nat):Int)=re a:=by unfold aJ re;split<;>rfl
def nV (a:Int):aJ a=0\/aJ a=1\/aJ a=2:=by unfold aJ;split<;>omega
def afN (b d a)(n:af a)(i:ak)(p:aT i)(e:¬a.x.getD i.V1 0%4=0)(f)(c:Hid (E f b d a)):
 an 201 #[I b,ag i] (aR (bG a i).1.1 (bG a i).1.2) [b,d] b d ((bG a i).2) f:=by
 have A:=c.out.lt;have v:=n.WE i.V1;have g:=l (fun W u=>bU b d a i.V1 p.V1 W u);have r:Hid (E ((f.alloc (az i)).alloc (.cells #[j 0,j 0] 118)) b d a):=cB;have k:Hid (∀W,O 272 #[j i.op] (j (aJ i.op)) W):=pr;have w:=nV i.op;unfold az at r;unfold bG;rw[z e];have h:=l (afI (aJ i.op));obtain⟨m,o⟩:=y (a.x.getD i.V1 0);obtain⟨x,q⟩:=y (aJ i.op);simp only[<-o]at g v e|-;simp only[<-q]at k h|-;have F:((m:Int)%4 !=0)=true:=M;unfold ag aR;obtain⟨D,G,H,J,B,C⟩:=i;dsimp only at *;clear n p o q e w;go_enter oZ,o0;go_wp2_with(first|(go_at_call 39;refine(g.out _ r).mono ?_;rintro s t ⟨rfl,rfl⟩)|(go_at_call 272;refine(k.out _).mono ?_;rintro s t ⟨rfl,rfl⟩)|(go_at_call 273;refine(h.out _).mono ?_;rintro s t ⟨rfl,rfl⟩));refine ab (v:=.agg #[j (h1 x),j m]) (by simp[results,results201,go_sem]) rfl ⟨rfl,(c.out.alloc _).alloc _,((Kept.refl _ _).alloc _).alloc _⟩
def afP (f h a)(k:af a)(i:ak)(H:aT i)(r:a.x.getD i.V1 0%4=0)(g:¬(a2 a.b (S a) (a.x.getD i.V1 0) (aJ i.op)).1.2=0)(e)(c:Hid (E e f h a)):
 an 201 #[I f,ag i] (aR (bG a i).1.1 (bG a i).1.2) [f,h] f h ((bG a i).2) e:=by
 have ap:=c.out.lt;have aq:=c.out.Ww;have s:=k.WE i.V1;have w:=l (fun W q=>bU f h a i.V1 H.V1 W q);have u:Hid (E ((e.alloc (az i)).alloc (.cells #[j 0,j 0] 118)) f h a):=cB;have x:Hid (∀W,O 272 #[j i.op] (j (aJ i.op)) W):=pr;have K:=nV i.op;unfold az at u;unfold bG;rw[B r];have d:=l (fun W q=>mI f h a k (a.x.getD i.V1 0) (aJ i.op) s K W q);have n:=fz k.b (S a) (a.x.getD i.V1 0) (aJ i.op);have L:=(fV a.b (S a) (a.x.getD i.V1 0) (aJ i.op) s).1;unfold cS;obtain⟨R,A⟩:=y (a2 a.b (S a) (a.x.getD i.V1 0) (aJ i.op));simp only[<-A]at d n L g|-;clear A;obtain⟨⟨U,o⟩,Q⟩:=R;have C:=N.okB k n;have P:=n.o;dsimp only at d n L P C g|-;unfold iO;dsimp only;obtain⟨p,t⟩:=y (a.x.getD i.V1 0);simp only[<-t]at w s r d|-;have ay:((p:Int)%4 !=0)=false:=M;rw[z g];unfold jb;dsimp only;rw[z g,<-t];simp only[tL ((U,o),Q) p (aJ i.op) g]at d;try dsimp only at d
 have T:=jr o (aJ i.op);obtain⟨V,D⟩:=y (a6 o (aJ i.op));simp only[<-D]at d T|-;obtain⟨au,J⟩:=y (aJ i.op);simp only[<-J]at x d|-;unfold ag aR;obtain⟨ax,aA,aC,aD,ar,aw⟩:=i;dsimp only at *;clear k H t J r K g D C n P c;go_enter oZ,o0;go_wp2_with(first|(go_at_call 39;refine(w.out _ u).mono ?_;rintro v ao ⟨rfl,rfl⟩)|(go_at_call 272;refine(x.out _).mono ?_;rintro v ao ⟨rfl,rfl⟩));refine(d.out _ u).mono ?_;rintro v am ⟨rfl,G,b⟩;obtain⟨X,Y,aB,ae,ah,Z,ai,aa,aj,ac,al,ad⟩:av am (e.heap.size+1) 0 0:=ii;go_wp2_with(first|(go_at_call 82;refine(cc _ _ _).mono ?_;rintro v aE ⟨rfl,rfl⟩));exact Ky
def afR (d f a)(q:af a)(i:ak)(Q:aT i)(w:a.x.getD i.V1 0%4=0)(t:(a2 a.b (S a) (a.x.getD i.V1 0) (aJ i.op)).1.2=0)(k:aZ ((a2 a.b (S a) (a.x.getD i.V1 0) (aJ i.op)).1.1:Nat) 4 (a2 a.b (S a) (a.x.getD i.V1 0) (aJ i.op)).2.o.length=false)(e)(c:Hid (E e d f a)):
 an 201 #[I d,ag i] (aR (bG a i).1.1 (bG a i).1.2) [d,f] d f ((bG a i).2) e:=by
 have aw:=c.out.lt;have ax:=c.out.Ww;have x:=q.WE i.V1;have H:=l (fun W v=>bU d f a i.V1 Q.V1 W v);have C:Hid (E ((e.alloc (az i)).alloc (.cells #[j 0,j 0] 118)) d f a):=cB;have J:Hid (∀W,O 272 #[j i.op] (j (aJ i.op)) W):=pr;have T:=nV i.op;unfold az at C;unfold bG;rw[B w];have n:=l (fun W v=>mI d f a q (a.x.getD i.V1 0) (aJ i.op) x T W v);have r:=fz q.b (S a) (a.x.getD i.V1 0) (aJ i.op);have U:=(fV a.b (S a) (a.x.getD i.V1 0) (aJ i.op) x).1;unfold cS;obtain⟨ao,K⟩:=y (a2 a.b (S a) (a.x.getD i.V1 0) (aJ i.op));simp only[<-K]at n r U t k|-;clear K;obtain⟨⟨h,au⟩,g⟩:=ao;have L:=N.okB q r;have o:=r.o;dsimp only at n r U o L t k|-;unfold iO;dsimp only;obtain⟨p,A⟩:=y (a.x.getD i.V1 0);simp only[<-A]at H x w n|-;have aD:((p:Int)%4 !=0)=false:=M;rw[B t,z (by rw[k];simp)];subst t;unfold jb;dsimp only;rw[z (by simp),<-A];simp only[mB ((h,0),g) p (aJ i.op) rfl]at n;try dsimp only at n
 have am:Hid (∀W,Hid (E W d f (a.V7 g))->O 261 #[I d,j h,j 4] (.bool false) W):=vk;have u:Hid (∀W,O 274 #[j 2,j (aJ i.op)] (j (a6 2 (aJ i.op))) W):=l (fun W=>ub 2 (aJ i.op) W);have ap:a6 ((2:Nat):Int) (aJ i.op)=a6 2 (aJ i.op):=rfl;rw[ap];obtain⟨V,P⟩:=y (a6 2 (aJ i.op));simp only[<-P]at u|-;obtain⟨aA,R⟩:=y (aJ i.op);simp only[<-R]at J n u|-;unfold ag aR;obtain⟨aC,aE,aG,aH,ay,aB⟩:=i;dsimp only at *;clear q Q A R w T P L r o c k;go_enter oZ,o0;go_wp2_with(first|(go_at_call 39;refine(H.out _ C).mono ?_;rintro s D ⟨rfl,rfl⟩)|(go_at_call 272;refine(J.out _).mono ?_;rintro s D ⟨rfl,rfl⟩));refine(n.out _ C).mono ?_;rintro s ar ⟨rfl,G,b⟩;obtain⟨X,Y,aF,ae,ah,Z,ai,aa,aj,ac,al,ad⟩:av ar (e.heap.size+1) 0 0:=ii;have aq:=l ((G.alloc (.cells #[j (-1),j 0] 118)).alloc (.cells #[j (-1),j 0] 118));go_wp2_with(first|(go_at_call 82;refine(cc _ _ _).mono ?_;rintro s aI ⟨rfl,rfl⟩)|(go_at_call 261;refine(am.out _ aq).mono ?_;rintro s D ⟨rfl,rfl⟩)|(go_at_call 274;refine(u.out _).mono ?_;rintro s D ⟨rfl,rfl⟩));exact Ky
def afQ (d f a)(u:af a)(i:ak)(C:aT i)(Z:i.op=50)(x:a.x.getD i.V1 0%4=0)(w:(a2 a.b (S a) (a.x.getD i.V1 0) (aJ i.op)).1.2=0)(k:aZ ((a2 a.b (S a) (a.x.getD i.V1 0) (aJ i.op)).1.1:Nat) 4 (a2 a.b (S a) (a.x.getD i.V1 0) (aJ i.op)).2.o.length=true)(n)(c:Hid (E n d f a)):
 an 201 #[I d,ag i] (aR (bG a i).1.1 (bG a i).1.2) [d,f] d f ((bG a i).2) n:=by
 have ax:=c.out.lt;have ay:=c.out.Ww;have A:=u.WE i.V1;have G:=l (fun W t=>bU d f a i.V1 C.V1 W t);have D:Hid (E ((n.alloc (az i)).alloc (.cells #[j 0,j 0] 118)) d f a):=cB;have H:Hid (∀W,O 272 #[j i.op] (j (aJ i.op)) W):=pr;have X:=nV i.op;unfold az at D;unfold bG;rw[B x];have r:=l (fun W t=>mI d f a u (a.x.getD i.V1 0) (aJ i.op) A X W t);have v:=fz u.b (S a) (a.x.getD i.V1 0) (aJ i.op);have aa:=(fV a.b (S a) (a.x.getD i.V1 0) (aJ i.op) A).1;unfold cS;obtain⟨ah,R⟩:=y (a2 a.b (S a) (a.x.getD i.V1 0) (aJ i.op));simp only[<-R]at r v aa w k|-;clear R;obtain⟨⟨h,aw⟩,g⟩:=ah;have z:=N.okB u v;have o:=v.o;dsimp only at r v aa o z w k|-;unfold iO;dsimp only;obtain⟨P,U⟩:=y (a.x.getD i.V1 0);simp only[<-U]at G A x r|-;have aY:((P:Int)%4 !=0)=false:=M;rw[B w,B k];subst w;unfold jb;dsimp only;rw[B rfl];obtain⟨ai,aj⟩:=jV k;simp only[mB ((h,0),g) P (aJ i.op) rfl]at r;try dsimp only at r
 have K:Hid (∀W,Hid (E W d f (a.V7 g))->O 261 #[I d,j h,j 4] (.bool true) W):=vk;obtain⟨p,ad⟩:=y (h-2147483648);have ac:h=2147483648+p:=J;have Y:p+4<=(a.V7 g).b.o.length:=zr;have Q:g6 (a.V7 g) i h=kW (a.V7 g) i h p:=by unfold g6;rw[<-ad];rw[B Z]
 rw[Q];have q:=l (fun W t=>agv d f (a.V7 g) z i C h p ac Y W t);obtain⟨au,T⟩:=y (kW (a.V7 g) i h p);simp only[<-T]at q|-;obtain⟨aW,V⟩:=y (aJ i.op);simp only[<-V]at H r;unfold ag at q;unfold ag aR;obtain⟨aX,ao,ap,aq,al,am⟩:=i;dsimp only at *;subst Z;clear u C U V x X z v o c k ac Y Q T ad ai aj;go_enter oZ,o0;go_wp2_with(first|(go_at_call 39;refine(G.out _ D).mono ?_;rintro ae ar ⟨rfl,rfl⟩)|(go_at_call 272;refine(H.out _).mono ?_;rintro ae ar ⟨rfl,rfl⟩));refine(r.out _ D).mono ?_;rintro ae s ⟨rfl,L,b⟩;obtain⟨aA,aB,aC,aD,aE,aF,aG,aO,aP,aH,aS,aI,aU,aM,aV,aN⟩:a7 s n.heap.size 50 ao ap aq al am:=jF;exact Ax
theorem ah7 (b d a)(g:af a)(i:ak)(h:aT i)(c p:Nat)(l:c=2147483648+p)(k:p+4<=a.b.o.length)(e)(m:Hid (E e b d a)):
 an 276 #[I b,ag i,j c] (.tuple #[]) [b,d] b d (hU a i c p) e:=by
 cases f:hT a c with
 |true=>exact ah8 b d a g i h c p l k f e m
 |false=>exact ah9 b d a g i h c p l k f e m
def afS (d f a)(u:af a)(i:ak)(D:aT i)(aa:i.op=51)(x:a.x.getD i.V1 0%4=0)(w:(a2 a.b (S a) (a.x.getD i.V1 0) (aJ i.op)).1.2=0)(k:aZ ((a2 a.b (S a) (a.x.getD i.V1 0) (aJ i.op)).1.1:Nat) 4 (a2 a.b (S a) (a.x.getD i.V1 0) (aJ i.op)).2.o.length=true)(n)(c:Hid (E n d f a)):
 an 201 #[I d,ag i] (aR (bG a i).1.1 (bG a i).1.2) [d,f] d f ((bG a i).2) n:=by
 have ay:=c.out.lt;have aA:=c.out.Ww;have C:=u.WE i.V1;have H:=l (fun W t=>bU d f a i.V1 D.V1 W t);have G:Hid (E ((n.alloc (az i)).alloc (.cells #[j 0,j 0] 118)) d f a):=cB;have P:Hid (∀W,O 272 #[j i.op] (j (aJ i.op)) W):=pr;have Y:=nV i.op;unfold az at G;unfold bG;rw[B x];have r:=l (fun W t=>mI d f a u (a.x.getD i.V1 0) (aJ i.op) C Y W t);have v:=fz u.b (S a) (a.x.getD i.V1 0) (aJ i.op);have ac:=(fV a.b (S a) (a.x.getD i.V1 0) (aJ i.op) C).1;unfold cS;obtain⟨ai,T⟩:=y (a2 a.b (S a) (a.x.getD i.V1 0) (aJ i.op));simp only[<-T]at r v ac w k|-;clear T;obtain⟨⟨h,ax⟩,g⟩:=ai;have A:=N.okB u v;have o:=v.o;dsimp only at r v ac o A w k|-;unfold iO;dsimp only;obtain⟨Q,V⟩:=y (a.x.getD i.V1 0);simp only[<-V]at H C x r|-;have a0:((Q:Int)%4 !=0)=false:=M;rw[B w,B k];subst w;unfold jb;dsimp only;rw[B rfl];obtain⟨aj,al⟩:=jV k;simp only[mB ((h,0),g) Q (aJ i.op) rfl]at r;try dsimp only at r
 have K:Hid (∀W,Hid (E W d f (a.V7 g))->O 261 #[I d,j h,j 4] (.bool true) W):=vk;obtain⟨p,ae⟩:=y (h-2147483648);have ad:h=2147483648+p:=J;have Z:p+4<=(a.V7 g).b.o.length:=zr;have R:g6 (a.V7 g) i h=hU (a.V7 g) i h p:=by unfold g6;rw[<-ae];rw[z (by omega),B aa]
 rw[R];have q:=l (fun W t=>ah7 d f (a.V7 g) A i D h p ad Z W t);obtain⟨aw,U⟩:=y (hU (a.V7 g) i h p);simp only[<-U]at q|-;obtain⟨aX,X⟩:=y (aJ i.op);simp only[<-X]at P r;unfold ag at q;unfold ag aR;obtain⟨aY,ap,aq,ar,am,ao⟩:=i;dsimp only at *;subst aa;clear u D V X x Y A v o c k ad Z R U ae aj al;go_enter oZ,o0;go_wp2_with(first|(go_at_call 39;refine(H.out _ G).mono ?_;rintro ah au ⟨rfl,rfl⟩)|(go_at_call 272;refine(P.out _).mono ?_;rintro ah au ⟨rfl,rfl⟩));refine(r.out _ G).mono ?_;rintro ah s ⟨rfl,L,b⟩;obtain⟨aB,aC,aD,aE,aF,aG,aH,aP,aS,aI,aU,aM,aV,aN,aW,aO⟩:a7 s n.heap.size 51 ap aq ar am ao:=jF;exact Ax
def afO (d f a)(u:af a)(i:ak)(D:aT i)(ac:52<=i.op/\i.op<=60)(x:a.x.getD i.V1 0%4=0)(w:(a2 a.b (S a) (a.x.getD i.V1 0) (aJ i.op)).1.2=0)(k:aZ ((a2 a.b (S a) (a.x.getD i.V1 0) (aJ i.op)).1.1:Nat) 4 (a2 a.b (S a) (a.x.getD i.V1 0) (aJ i.op)).2.o.length=true)(n)(c:Hid (E n d f a)):
 an 201 #[I d,ag i] (aR (bG a i).1.1 (bG a i).1.2) [d,f] d f ((bG a i).2) n:=by
 have aA:=c.out.lt;have aB:=c.out.Ww;have C:=u.WE i.V1;have P:=l (fun W t=>bU d f a i.V1 D.V1 W t);have G:Hid (E ((n.alloc (az i)).alloc (.cells #[j 0,j 0] 118)) d f a):=cB;have Q:Hid (∀W,O 272 #[j i.op] (j (aJ i.op)) W):=pr;have Z:=nV i.op;unfold az at G;unfold bG;rw[B x];have r:=l (fun W t=>mI d f a u (a.x.getD i.V1 0) (aJ i.op) C Z W t);have v:=fz u.b (S a) (a.x.getD i.V1 0) (aJ i.op);have ad:=(fV a.b (S a) (a.x.getD i.V1 0) (aJ i.op) C).1;unfold cS;obtain⟨aj,U⟩:=y (a2 a.b (S a) (a.x.getD i.V1 0) (aJ i.op));simp only[<-U]at r v ad w k|-;clear U;obtain⟨⟨h,ay⟩,g⟩:=aj;have A:=N.okB u v;have o:=v.o;dsimp only at r v ad o A w k|-;unfold iO;dsimp only;obtain⟨R,X⟩:=y (a.x.getD i.V1 0);simp only[<-X]at P C x r|-;have a0:((R:Int)%4 !=0)=false:=M;rw[B w,B k];subst w;unfold jb;dsimp only;rw[B rfl];obtain⟨al,am⟩:=jV k;simp only[mB ((h,0),g) R (aJ i.op) rfl]at r;try dsimp only at r
 have K:Hid (∀W,Hid (E W d f (a.V7 g))->O 261 #[I d,j h,j 4] (.bool true) W):=vk;obtain⟨p,ah⟩:=y (h-2147483648);have ae:h=2147483648+p:=J;have aa:p+4<=(a.V7 g).b.o.length:=zr;have T:g6 (a.V7 g) i h=kG (a.V7 g) i p:=by unfold g6;rw[<-ah];rw[z (by omega),z (by omega)]
 rw[T];have q:=l (fun W t=>agI d f (a.V7 g) A i D h p ae aa ac W t);obtain⟨ax,V⟩:=y (kG (a.V7 g) i p);simp only[<-V]at q|-;obtain⟨aY,Y⟩:=y (aJ i.op);simp only[<-Y]at Q r;unfold ag at q;unfold ag aR;obtain⟨H,aq,ar,au,ao,ap⟩:=i;dsimp only at *;have a1:(H==50)=false:=M;have a3:(H==51)=false:=M;clear u D X Y x Z A v o c k ae aa T V ah al am ac;go_enter oZ,o0;go_wp2_with(first|(go_at_call 39;refine(P.out _ G).mono ?_;rintro ai aw ⟨rfl,rfl⟩)|(go_at_call 272;refine(Q.out _).mono ?_;rintro ai aw ⟨rfl,rfl⟩));refine(r.out _ G).mono ?_;rintro ai s ⟨rfl,L,b⟩;obtain⟨aC,aD,aE,aF,aG,aH,aI,aS,aU,aM,aV,aN,aW,aO,aX,aP⟩:a7 s n.heap.size H aq ar au ao ap:=jF;exact Ax
theorem afL (b c a)(f:af a)(i:ak)(g:aT i)(o:50<=i.op/\i.op<=60)(d)(h:Hid (E d b c a)):
 an 201 #[I b,ag i] (aR (bG a i).1.1 (bG a i).1.2) [b,c] b c ((bG a i).2) d:=by
 by_cases e:a.x.getD i.V1 0%4=0
 . by_cases j:(a2 a.b (S a) (a.x.getD i.V1 0) (aJ i.op)).1.2=0
   . cases k:aZ ((a2 a.b (S a) (a.x.getD i.V1 0) (aJ i.op)).1.1:Nat) 4 (a2 a.b (S a) (a.x.getD i.V1 0) (aJ i.op)).2.o.length with
     |false=>exact afR b c a f i g e j k d h
     |true=>
      by_cases l:i.op=50
      . exact afQ b c a f i g l e j k d h
      by_cases n:i.op=51
      . exact afS b c a f i g n e j k d h
      exact afO b c a f i g m e j k d h
   . exact afP b c a f i g e j d h
 . exact afN b c a f i g e d h
def bR (b:N)(a:Int)(c:Nat):N:=if 256<=a/\a<=511 then eZ b a c else if 768<=a/\a<=1023 then eu b a c else hr b a c
theorem ua (b g c)(k:af c)(a:Int)(d:Nat)(o:G d)(h)(m:Hid (E h b g c)):
 an 279 #[.pointer (some ⟨b,38,none⟩),j a,j d] (.tuple #[]) [b] b g (bR c a d) h:=by
 have q:=l (aiO b g c k a d o h m);have p:=l (aiA b g c k a d o h m);have v:=l (aiu b g c k a d o h m);unfold bR;clear k m;by_cases i:256<=a/\a<=511
 . rw[B i];obtain⟨r,s⟩:=i;have w:decide (256<=a)=true:=by simp[r]
   have x:decide (a<=511)=true:=by simp[s]
   go_enter func279,ntmps279;go_wp2_with(go_at_call 350;refine q.out.mono ?_;rintro t u ⟨rfl,f,e⟩);go_end0;exact⟨rfl,f,e⟩
 rw[z i];by_cases n:768<=a/\a<=1023
 . rw[B n];obtain⟨r,s⟩:=n;have w:decide (256<=a)=true:=M;have x:decide (a<=511)=false:=M;clear i;go_enter func279,ntmps279;go_wp2_with(go_at_call 351;refine p.out.mono ?_;rintro t u ⟨rfl,f,e⟩);go_end0;exact⟨rfl,f,e⟩
 rw[z n];clear q p;go_enter func279,ntmps279;go_wp2_with(go_at_call 352;refine v.out.mono ?_;rintro t u ⟨rfl,f,e⟩);all_goals first
  | (exfalso;omega)
  | (go_end0;exact⟨rfl,f,e⟩)
def VJ (a:N)(b:af a)(d:Int):(bO a d).1<4294967296:=by
 have e:=b.V5;have f:=b.Wd;have g:=b.WH;have h:=b.WA;have i:=b.WR;have j:=b.Wu;have k:=b.WD;have l:=b.WI;have m:=b.Wf;have p:=qA a b;have n:(a.c.V5&&&786722)<=a.c.V5:=gN;have o:(a.c.Wd&&&a.c.V9)<=a.c.Wd:=gN;have q:(dU a&&&a.c.V9)<=dU a:=gN;unfold bO;repeat' split
 all_goals first|(dsimp only;omega)|omega|(show(0:Nat)<_;omega)|(show(1075056901:Nat)<_;omega)|(rename_i c;split at c<;>simp_all)
def hb {c:Prop}[Decidable c]{a b:Nat×Bool}(d:G a.1)(e:G b.1):(if c then a else b).1<4294967296:=by split<;>assumption
def SS (b:N)(a:af b)(e:Int):(bM b e).1<4294967296:=by
 have c:=a.Wp;have d:=a.W8;have p:=qA b a;unfold bM;refine hb a.V5 (hb R (hb a.WG (hb a.V9 (hb a.Wd (hb a.Wz (hb (jz c R) (hb (jz d R) (hb a.WK (hb a.Wm (hb a.Wx (hb a.WB (hb (jz p R) (show(0:Nat)<4294967296 by decide)))))))))))))
def Qf (b:N)(a:af b)(d:Nat):(bF b d).1<4294967296:=by
 have e:=a.Wy;have f:=a.WN;have g:=a.ret;have h:=a.We;have i:=a.b.time;have j:=a.b.Wh;unfold bF b8;repeat' split
 all_goals first|(dsimp only;omega)|omega|(show(0:Nat)<_;omega)|(show(1075056901:Nat)<_;omega)|(rename_i c;split at c<;>simp_all)
def k0 (a:N)(b:af a)(c:Int):(aA a c).1<4294967296:=by
 unfold aA;repeat' split
 . exact VJ a b c
 . exact SS a b c
 . exact Qf a b _
 . dsimp only;omega
def qd (e:Int)(a b:Nat)(c:G a)(d:G b):ev e a b<4294967296:=by
 unfold ev;repeat' split
 . exact ft a b 32 c d
 . exact bJ (h0 _ _) c
 . exact d
def df (a:N)(i:ak):Nat:=if i.op<=63 then a.x.getD i.V1 0 else i.V1
def dR (a:N)(i:ak):N:=
 if cT i=true then bR (a5 a i.rd (aA a i.V2).1) i.V2 (ev i.op (if i.V2=836 then a.c.Wo else(aA a i.V2).1) (df a i))else a5 a i.rd (aA a i.V2).1
def N.Yp {b:N}(a:af b)(c d:Nat)(e:G d):af (a5 b c d):=by
 unfold a5;split
 . exact a
 . refine⟨a.b,by simpa using a.x,?_,a.V3,a.mode,a.V5,a.Wf,a.Wd,a.Wo,a.WG,a.V9,a.Wz,a.Wp,a.W8,a.WK,a.Wm,a.Wx,a.WB,a.WH,a.WA,a.WR,a.Wu,a.WD,a.WI,a.Wy,a.WN,a.ret,a.We,a.WU,a.Wl⟩;intro i;dsimp only;by_cases hd:c<32
   . rw[Cl b.x c i d a.x hd];split
     . exact e
     . exact a.WE i
   . rw[List.set_eq_of_length_le (by rw[a.x];omega)];exact a.WE i
def agd (g n c)(d:af c)(i:ak)(m:aT i)(v:i.op<=63)(q:cT i=false)(f)(a:Hid (E f g n c)):
 an 203 #[I g,ag i] (.tuple #[]) [g] g n (dR c i) f:=by
 have T:=a.out.lt;have O:=l (fun W s=>bU g n c i.V1 m.V1 W s);have p:Hid (E (f.alloc (az i)) g n c):=b6;have o:=l (fun W s=>j7 g n c d i.V2 W s);have k:=k0 c d i.V2;have A:G (df c i):=by
  unfold df;split
  . exact d.WE _
  . have:=m.V1;omega
 have P:=d.Wo;have j:=l (fun W=>j8 i W);unfold dR;have D:=N.Yp d i.rd (aA c i.V2).1 k;have h:=l (fun W s=>fY g n c d.x i.rd (aA c i.V2).1 m.rd W s);simp only[q]at j;rw[z (by rw[q];simp)];have C:df c i=c.x.getD i.V1 0:=zs;rw[C]at A;obtain⟨⟨M,S⟩,w⟩:∃r,r=aA c i.V2:=⟨_,rfl⟩;simp only[<-w]at o k D h  |-;try dsimp only at o k D h  |-
 unfold az at p j;unfold ag at j|-;have Q:(a5 c i.rd M).c.Wo=c.c.Wo:=lN;obtain⟨t,u,K,L,H,J⟩:=i;dsimp only at *;obtain⟨R,x⟩:=y (a5 c u M);simp only[<-x]at h D Q  |-;have U:decide (t<=63)=true:=by simp[v]
 exact KF
def age (m M d)(c:af d)(i:ak)(p:aT i)(v:i.op<=63)(x:cT i=true)(A:¬i.V2=836)(k)(a:Hid (E k m M d)):
 an 203 #[I m,ag i] (.tuple #[]) [m] m M (dR d i) k:=by
 have ab:=a.out.lt;have X:=l (fun W J=>bU m M d i.V1 p.V1 W J);have C:Hid (E (k.alloc (az i)) m M d):=b6;have t:=l (fun W J=>j7 m M d c i.V2 W J);have g:=k0 d c i.V2;have q:G (df d i):=by
  unfold df;split
  . exact c.WE _
  . have:=p.V1;omega
 have Y:=c.Wo;have o:=l (fun W=>j8 i W);unfold dR;have Q:=N.Yp c i.rd (aA d i.V2).1 g;have n:=l (fun W J=>fY m M d c.x i.rd (aA d i.V2).1 p.rd W J);simp only[x]at o;rw[B x,z A];have w:df d i=d.x.getD i.V1 0:=zs;rw[w]at q;rw[w];have s:=l (tZ i.op (aA d i.V2).1 (d.x.getD i.V1 0) g q);have u:=qd i.op (aA d i.V2).1 (d.x.getD i.V1 0) g q;have f:=l (fun W J=>ua m M (a5 d i.rd (aA d i.V2).1) Q i.V2 (ev i.op (aA d i.V2).1 (d.x.getD i.V1 0)) u W J);obtain⟨ac,V⟩:=y (ev i.op (aA d i.V2).1 (d.x.getD i.V1 0));simp only[<-V]at s f u|-;clear V;obtain⟨⟨R,aa⟩,K⟩:∃r,r=aA d i.V2:=⟨_,rfl⟩;simp only[<-K]at t g Q n s f|-;try dsimp only at t g Q n s f|-
 unfold az at C o;unfold ag at o|-;have O:(a5 d i.rd R).c.Wo=d.c.Wo:=lN;obtain⟨D,H,T,U,P,S⟩:=i;dsimp only at *;obtain⟨Z,L⟩:=y (a5 d H R);simp only[<-L]at n Q O s f|-;have ad:decide (D<=63)=true:=by simp[v]
 exact KG
def agc (z M d)(c:af d)(i:ak)(p:aT i)(v:i.op<=63)(x:cT i=true)(A:i.V2=836)(k)(a:Hid (E k z M d)):
 an 203 #[I z,ag i] (.tuple #[]) [z] z M (dR d i) k:=by
 have ab:=a.out.lt;have X:=l (fun W J=>bU z M d i.V1 p.V1 W J);have C:Hid (E (k.alloc (az i)) z M d):=b6;have t:=l (fun W J=>j7 z M d c i.V2 W J);have g:=k0 d c i.V2;have q:G (df d i):=by
  unfold df;split
  . exact c.WE _
  . have:=p.V1;omega
 have Y:=c.Wo;have o:=l (fun W=>j8 i W);unfold dR;have Q:=N.Yp c i.rd (aA d i.V2).1 g;have n:=l (fun W J=>fY z M d c.x i.rd (aA d i.V2).1 p.rd W J);simp only[x]at o;rw[B x,B A];have w:df d i=d.x.getD i.V1 0:=zs;rw[w]at q;rw[w];have s:=l (tZ i.op d.c.Wo (d.x.getD i.V1 0) m q);have u:=qd i.op d.c.Wo (d.x.getD i.V1 0) m q;have f:=l (fun W J=>ua z M (a5 d i.rd (aA d i.V2).1) Q i.V2 (ev i.op d.c.Wo (d.x.getD i.V1 0)) u W J);obtain⟨ac,V⟩:=y (ev i.op d.c.Wo (d.x.getD i.V1 0));simp only[<-V]at s f u|-;clear V;obtain⟨⟨R,aa⟩,K⟩:∃r,r=aA d i.V2:=⟨_,rfl⟩;simp only[<-K]at t g Q n f|-;try dsimp only at t g Q n f|-
 unfold az at C o;unfold ag at o|-;have O:(a5 d i.rd R).c.Wo=d.c.Wo:=lN;obtain⟨D,H,T,U,P,S⟩:=i;dsimp only at *;obtain⟨Z,L⟩:=y (a5 d H R);simp only[<-L]at n Q O f|-;have ad:decide (D<=63)=true:=by simp[v]
 exact KI
def aga (g n c)(d:af c)(i:ak)(m:aT i)(v:¬i.op<=63)(q:cT i=false)(f)(a:Hid (E f g n c)):
 an 203 #[I g,ag i] (.tuple #[]) [g] g n (dR c i) f:=by
 have T:=a.out.lt;have O:=l (fun W s=>bU g n c i.V1 m.V1 W s);have p:Hid (E (f.alloc (az i)) g n c):=b6;have o:=l (fun W s=>j7 g n c d i.V2 W s);have k:=k0 c d i.V2;have A:G (df c i):=by
  unfold df;split
  . exact d.WE _
  . have:=m.V1;omega
 have P:=d.Wo;have j:=l (fun W=>j8 i W);unfold dR;have B:=N.Yp d i.rd (aA c i.V2).1 k;have h:=l (fun W s=>fY g n c d.x i.rd (aA c i.V2).1 m.rd W s);simp only[q]at j;rw[z (by rw[q];simp)];have C:df c i=i.V1:=zt;rw[C]at A;obtain⟨⟨D,S⟩,w⟩:∃r,r=aA c i.V2:=⟨_,rfl⟩;simp only[<-w]at o k B h  |-;try dsimp only at o k B h  |-
 unfold az at p j;unfold ag at j|-;have Q:(a5 c i.rd D).c.Wo=c.c.Wo:=lN;obtain⟨t,u,K,L,H,J⟩:=i;dsimp only at *;obtain⟨R,x⟩:=y (a5 c u D);simp only[<-x]at h B Q  |-;have U:decide (t<=63)=false:=M;exact KF
def agb (m Q d)(c:af d)(i:ak)(p:aT i)(v:¬i.op<=63)(x:cT i=true)(A:¬i.V2=836)(k)(a:Hid (E k m Q d)):
 an 203 #[I m,ag i] (.tuple #[]) [m] m Q (dR d i) k:=by
 have ac:=a.out.lt;have X:=l (fun W J=>bU m Q d i.V1 p.V1 W J);have C:Hid (E (k.alloc (az i)) m Q d):=b6;have t:=l (fun W J=>j7 m Q d c i.V2 W J);have g:=k0 d c i.V2;have q:G (df d i):=by
  unfold df;split
  . exact c.WE _
  . have:=p.V1;omega
 have Y:=c.Wo;have o:=l (fun W=>j8 i W);unfold dR;have R:=N.Yp c i.rd (aA d i.V2).1 g;have n:=l (fun W J=>fY m Q d c.x i.rd (aA d i.V2).1 p.rd W J);simp only[x]at o;rw[B x,z A];have w:df d i=i.V1:=zt;rw[w]at q;rw[w];have s:=l (tZ i.op (aA d i.V2).1 (i.V1) g q);have u:=qd i.op (aA d i.V2).1 (i.V1) g q;have f:=l (fun W J=>ua m Q (a5 d i.rd (aA d i.V2).1) R i.V2 (ev i.op (aA d i.V2).1 (i.V1)) u W J);obtain⟨ad,Z⟩:=y (ev i.op (aA d i.V2).1 (i.V1));simp only[<-Z]at s f u|-;clear Z;obtain⟨⟨V,ab⟩,K⟩:∃r,r=aA d i.V2:=⟨_,rfl⟩;simp only[<-K]at t g R n s f|-;try dsimp only at t g R n s f|-
 unfold az at C o;unfold ag at o|-;have O:(a5 d i.rd V).c.Wo=d.c.Wo:=lN;obtain⟨D,H,T,U,P,S⟩:=i;dsimp only at *;obtain⟨aa,L⟩:=y (a5 d H V);simp only[<-L]at n R O s f|-;have ae:decide (D<=63)=false:=M;exact KG
def af9 (J R d)(c:af d)(i:ak)(p:aT i)(v:¬i.op<=63)(x:cT i=true)(A:i.V2=836)(k)(a:Hid (E k J R d)):
 an 203 #[I J,ag i] (.tuple #[]) [J] J R (dR d i) k:=by
 have ad:=a.out.lt;have X:=l (fun W Q=>bU J R d i.V1 p.V1 W Q);have C:Hid (E (k.alloc (az i)) J R d):=b6;have t:=l (fun W Q=>j7 J R d c i.V2 W Q);have g:=k0 d c i.V2;have q:G (df d i):=by
  unfold df;split
  . exact c.WE _
  . have:=p.V1;omega
 have Y:=c.Wo;have o:=l (fun W=>j8 i W);unfold dR;have V:=N.Yp c i.rd (aA d i.V2).1 g;have n:=l (fun W Q=>fY J R d c.x i.rd (aA d i.V2).1 p.rd W Q);simp only[x]at o;rw[B x,B A];have w:df d i=i.V1:=zt;rw[w]at q;rw[w];have s:=l (tZ i.op d.c.Wo (i.V1) m q);have u:=qd i.op d.c.Wo (i.V1) m q;have f:=l (fun W Q=>ua J R (a5 d i.rd (aA d i.V2).1) V i.V2 (ev i.op d.c.Wo (i.V1)) u W Q);obtain⟨ae,aa⟩:=y (ev i.op d.c.Wo (i.V1));simp only[<-aa]at s f u|-;clear aa;obtain⟨⟨Z,ac⟩,K⟩:∃r,r=aA d i.V2:=⟨_,rfl⟩;simp only[<-K]at t g V n f|-;try dsimp only at t g V n f|-
 unfold az at C o;unfold ag at o|-;have O:(a5 d i.rd Z).c.Wo=d.c.Wo:=lN;obtain⟨D,H,T,U,P,S⟩:=i;dsimp only at *;obtain⟨ab,L⟩:=y (a5 d H Z);simp only[<-L]at n V O f|-;have ah:decide (D<=63)=false:=M;exact KI
theorem af8 (a c b)(f:af b)(i:ak)(g:aT i)(d)(j:Hid (E d a c b)):
 an 203 #[I a,ag i] (.tuple #[]) [a] a c (dR b i) d:=by
 by_cases h:i.op<=63
 . cases e:cT i with
   |false=>exact agd a c b f i g h e d j
   |true=>
    by_cases k:i.V2=836
    . exact agc a c b f i g h e k d j
    . exact age a c b f i g h e k d j
 . cases e:cT i with
   |false=>exact aga a c b f i g h e d j
   |true=>
    by_cases k:i.V2=836
    . exact af9 a c b f i g h e k d j
    . exact agb a c b f i g h e k d j
end
end Go.Proofs.YtmlgonbhoknoiabGreatDoor
