import Derived.Test.YtmlgonbhoknoiaaGreatDoorJAM
import Derived.Test.YtmlgonbhoknoiaaGreatDoorJAR
set_option maxHeartbeats 8000000
set_option maxRecDepth 100000
set_option linter.all false
namespace Go.Proofs.YtmlgonbhoknoiaaGreatDoor
open Go.RowKit Go.Proofs.Tryz
theorem ty (s d i A t:Nat)(a:ai)(v:aT a.b)(n:ay a.f)(g b:Nat)(O:G g)(w:b=0\/b=1\/b=2)(h:D)(k:Hid (V h s d i A t a)):
 Calls prog 390 #[I s,j g,j b] h fun f C=>f=.returned (.tuple #[j (a3 a.b a.f g b).1.1,j (a3 a.b a.f g b).1.2])/\V C s d i A t {a with b:=(a3 a.b a.f g b).2}/\Kept [d,t] h C:=by
 have c1:=k.out.c1;have q:=l (abI i d a.f b h (l k.out.WW));have c:=l (acG i d a.f (cx a.f b) h (l k.out.WW));have u:=l (acI i d a.f n.Wf h (l k.out.WW));have x:cx a.f b<3->cx a.f b=0\/cx a.f b=1:=by
  have R:=n.mode;have S:=n.Wl;unfold cx;repeat' split
  all_goals omega
 unfold a3;have r:hQ a.f b=(if decide (cx a.f b<3)=true then decide (2147483648<=a.f.Wf)else false):=rfl;rw[<-r]at c;cases e:hQ a.f b with
 |false=>
  rw[e]at c;rw[z (by simp)];obtain⟨K,o⟩:=y (cx a.f b);rw[<-o]at q c;clear e r x w v n u o;go_enter func390,ntmps390;go_wp2_with(first|(go_at_call 412;refine q.out.mono ?_;rintro f p ⟨rfl,rfl⟩)|(go_at_call 413;refine c.out.mono ?_;rintro f p ⟨rfl,rfl⟩));go_ret2;exact⟨rfl,k.out,Kept.refl _ _⟩
 |true=>
  rw[e]at c;rw[B rfl];have H:cx a.f b<3:=by
   rw[r]at e;by_cases E:cx a.f b<3
   . exact E
   . rw[z (by simpa using E)]at e;cases e
  have W:=l (afa s d i A t a v (a.f.Wf%4194304*4096) g b (cx a.f b) m O w (x H) h k);obtain⟨K,o⟩:=y (cx a.f b);obtain⟨P,J⟩:=y (a.f.Wf%4194304*4096);rw[<-o]at q c W|-;rw[<-J]at W u|-;obtain⟨L,F⟩:=y (fC a.b a.f P g b K);rw[<-F]at W|-;clear e r x w v n H o J F;obtain⟨⟨U,T⟩,Q⟩:=L;go_enter func390,ntmps390;go_wp2_with(first|(go_at_call 412;refine q.out.mono ?_;rintro f p ⟨rfl,rfl⟩)|(go_at_call 413;refine c.out.mono ?_;rintro f p ⟨rfl,rfl⟩)|(go_at_call 414;refine u.out.mono ?_;rintro f p ⟨rfl,rfl⟩)|(go_at_call 415;refine W.out.mono ?_;rintro f p ⟨rfl,M,N⟩));go_ret2;exact⟨rfl,M,N⟩
theorem EN (k c t u g:Nat)(a:ai)(J:aT a.b)(U:ay a.f)(b:Nat)(P:G b)(n:D)(W:Hid (V n k c t u g a)):
 Calls prog 363 #[I k,j b] n fun h o=>h=.returned (.tuple #[j (ck a.b a.f b).1.1,j (ck a.b a.f b).1.2])/\V o k c t u g {a with b:=(ck a.b a.f b).2}/\Kept [c,g] n o:=by
 have f:Hid (Calls prog 390 #[I k,j b,j 0] n fun h o=>h=.returned (.tuple #[j (a3 a.b a.f b 0).1.1,j (a3 a.b a.f b 0).1.2])/\V o k c t u g {a with b:=(a3 a.b a.f b 0).2}/\Kept [c,g] n o):=l (ty k c t u g a J U b 0 P (.inl rfl) n W);have r:=fA J a.f b 0;have L:=(fW a.b a.f b 0 P).1;unfold ck;obtain⟨S,K⟩:=y (a3 a.b a.f b 0);rw[<-K]at f r L|-;clear K;obtain⟨⟨e,F⟩,i⟩:=S;dsimp only at f r L;unfold nJ;dsimp only;by_cases x:F=0
 . subst x;rw[B rfl];cases q:a1 (e:Int) 2 i.o.length with
   |false=>
    rw[z (by simp)];have v:=l q;clear q;go_enter func363,ntmps363;go_wp2_with fail;refine f.out.mono ?_;rintro h s ⟨rfl,d,A⟩;have T:=d.V8;have p:=l (iM c g e 2 m m m m i.o.length r.o s d.Wt.V8);rw[v.out]at p;have w:=l d;clear d;go_wp2_with(go_at_call 391;refine p.out.mono ?_;rintro h Q ⟨rfl,rfl⟩);go_ret2;exact⟨rfl,w.out,A⟩
   |true=>
    rw[B rfl];have N:2147483648<=e/\e-2147483648+2<=i.o.length:=by
     have H:=q;unfold a1 at H;simp at H;omega
    have v:=l q;clear q;obtain⟨Y,C⟩:=y (cc i (e-2147483648) 2);rw[<-C];have R:=l C;clear C;go_enter func363,ntmps363;go_wp2_with fail;refine f.out.mono ?_;rintro h s ⟨rfl,d,A⟩;have T:=d.V8;have p:=l (iM c g e 2 m m m m i.o.length r.o s d.Wt.V8);rw[v.out]at p;have E:Hid (O 392 #[I c,j e,j 2] (j (cc i (e-2147483648) 2)) s):=l (xR c g i r e (e-2147483648) 2 m m m N.2 s (l d.Wt));rw[<-R.out]at E;have w:=l d;clear d N;go_wp2_with(first|(go_at_call 391;refine p.out.mono ?_;rintro h Q ⟨rfl,rfl⟩)|(go_at_call 392;refine E.out.mono ?_;rintro h Q ⟨rfl,rfl⟩));go_ret2;exact⟨rfl,w.out,A⟩
 . rw[z x];have X:((F:Int) !=0)=true:=M;clear x;go_enter func363,ntmps363;exact Jd
theorem acT (o e t A g:Nat)(a:ai)(F:aT a.b)(P:ay a.f)(d b:Nat)(L:G d)(J:b=0\/b=1\/b=2)(p:D)(Q:Hid (V p o e t A g a)):
 Calls prog 427 #[I o,j d,j b] p fun i C=>i=.returned (.tuple #[j (cV a.b a.f d b).1.1,j (cV a.b a.f d b).1.2])/\V C o e t A g {a with b:=(cV a.b a.f d b).2}/\Kept [e,g] p C:=by
 have f:=l (ty o e t A g a F P d b L J p Q);have n:=fA F a.f d b;have K:=(fW a.b a.f d b L).1;unfold cV;obtain⟨N,H⟩:=y (a3 a.b a.f d b);rw[<-H]at f n K|-;clear H J;obtain⟨⟨w,E⟩,q⟩:=N;dsimp only at f n K;unfold iN;dsimp only;by_cases u:E=0
 . subst u;rw[B rfl];cases k:a1 (w:Int) 4 q.o.length with
   |false=>
    rw[z (by simp)];have r:=l k;clear k;go_enter func427,ntmps427;go_wp2_with fail;refine f.out.mono ?_;rintro i x ⟨rfl,c,v⟩;have O:=c.V8;have h:=l (iM e g w 4 m m m m q.o.length n.o x c.Wt.V8);rw[r.out]at h;have s:=l c;clear c;go_wp2_with(go_at_call 391;refine h.out.mono ?_;rintro i R ⟨rfl,rfl⟩);go_ret2;exact⟨rfl,s.out,v⟩
   |true=>
    rw[B rfl];have r:=l k;clear k;go_enter func427,ntmps427;go_wp2_with fail;refine f.out.mono ?_;rintro i x ⟨rfl,c,v⟩;have O:=c.V8;have h:=l (iM e g w 4 m m m m q.o.length n.o x c.Wt.V8);rw[r.out]at h;have s:=l c;clear c;go_wp2_with(go_at_call 391;refine h.out.mono ?_;rintro i R ⟨rfl,rfl⟩);go_ret2;exact⟨rfl,s.out,v⟩
 . rw[z u];have S:((E:Int)==0)=false:=M;clear u;go_enter func427,ntmps427;exact Jd
theorem V.alloc {a:D}{e c d h g:Nat}{b:ai}(i:V a e c d h g b)(f:Obj):V (a.alloc f) e c d h g b:=i.more ((Kept.refl [] a).alloc f) (by simp) (by simp) (by simp) (by simp) (by simp)
theorem V.drew {a:D}{c bb fb xb rb:Nat}{b:ai}(d:V a c bb fb xb rb b):V a.drew c bb fb xb rb b:=d.more (Kept.refl [] a).drew (by simp) (by simp) (by simp) (by simp) (by simp)
structure lY (b:D)(a:Nat)(c:dI):Prop where
 V8:b.cell? ⟨a,0,none⟩=some (j c.Xd)
 c1:b.cell? ⟨a,1,none⟩=some (j c.WO)
 c2:b.cell? ⟨a,2,none⟩=some (j c.Xr)
 c3:b.cell? ⟨a,3,none⟩=some (j c.Xg)
 c4:b.cell? ⟨a,4,none⟩=some (j c.fault)
 c5:b.cell? ⟨a,5,none⟩=some (j c.XF)
 Wb:∀d,b.frozen? ⟨a,d,none⟩=false
 lt:a<b.heap.size
def k8 (a:dI):Obj:=.cells #[j a.Xd,j a.WO,j a.Xr,j a.Xg,j a.fault,j a.XF] 289
def lY.new (b:D)(a:dI):lY (b.alloc (k8 a)) b.heap.size a:=by
 unfold k8;refine⟨?_,?_,?_,?_,?_,?_,?_,?_⟩<;>simp
def lY.more {g w':D}{b:Nat}{f:dI}{F:List Nat}(a:lY g b f)(c:Kept F g w')(d:b∉F):lY w' b f:=
 ⟨(c.cell (p:=⟨b,0,none⟩) a.lt d).trans a.V8,(c.cell (p:=⟨b,1,none⟩) a.lt d).trans a.c1,(c.cell (p:=⟨b,2,none⟩) a.lt d).trans a.c2,(c.cell (p:=⟨b,3,none⟩) a.lt d).trans a.c3,(c.cell (p:=⟨b,4,none⟩) a.lt d).trans a.c4,(c.cell (p:=⟨b,5,none⟩) a.lt d).trans a.c5,fun e=>(c.frozen (p:=⟨b,e,none⟩) a.lt d).trans (a.Wb e),aR a.lt c.size⟩
def V.other {h:D}{d b c f e:Nat}{g:ai}(a o:Nat)(p:Value)(i:V h d b c f e g)(j:d≠a)(k:b≠a)(l:c≠a)(m:f≠a)(n:e≠a):V (h.setCell ⟨a,o,none⟩ p) d b c f e g:=
 i.more (G:=[a]) ((Kept.refl _ _).setCell (.inl (by simp)) _) (by simpa using j) (by simpa using k) (by simpa using l) (by simpa using m) (by simpa using n)
def V.kept {g a:D}{e c d h f:Nat}{b:ai}(i:V g e c d h f b)(j:Kept [] g a):V a e c d h f b:=i.more j (by simp) (by simp) (by simp) (by simp) (by simp)
def aeh (e c w K q:Nat)(f:ai)(s:aT f.b)(a:dI)(ah:Nat)(Z:vV a ah)(aG:ah<=4)(al:1<=a.WO)(d:D)(h:Hid (V d e c w K q f)):
 Calls prog 420 #[I e,jl a] d fun u b=>u=.returned (j (dU f.b a).1)/\V b e c w K q {f with b:=(dU f.b a).2}/\Kept [c,q] d b:=by
 obtain⟨ay,az,-,-,-,-,aA⟩:=id Z;have aH:=h.out.Wt.lt;have aI:=h.out.lt;have n:=l (h.out.alloc (k8 a)).drew;have ae:=l ((lY.new d a).more (Kept.refl [] _).drew F);have ac:Kept [c,q] d (d.alloc (k8 a)).drew:=pF;have aB:=h.out.V8;have r:=ji s a.Xd a.WO;have C:=iC s a.Xd a.WO al;have v:=fun W (U:Hid (V W e c w K q f))=>l (xQ c q f.b s a.Xd a.WO m m m m W (l U.out.Wt));obtain⟨⟨v1,L⟩,x⟩:∃S,S=ba f.b a.Xd a.WO:=⟨_,rfl⟩;have g:dU f.b a=dU f.b a:=rfl;conv at g=>rhs;unfold dU
 rw[<-x]at g r C;simp only[<-x]at v;try dsimp only at g v r C
 have ap:(256:Nat)^a.WO<=4294967296:=by
  have:(256:Nat)^a.WO<=256^4:=cY R m;exact this
 have aF:G v1:=J;have P:=l (xV a.WO m);obtain⟨p,t⟩:=y (256^a.WO);simp only[<-t]at P ap;unfold jl;unfold k8 at n ae ac;obtain⟨aj,ad,E,k,aD,aK⟩:=a;dsimp only at *;have N:¬d.heap.size∈ [c]:=M;have O:¬e∈ [c]:=Ln;by_cases ab:0<k
 . have au:decide (0< (k:Int))=true:=M;have Y:=iC r E k ab;have Q:=fun W (U:Hid (V W e c w K q {f with b:=L}))=>l (xQ c q L r E k m m m m W (l U.out.Wt));rw[B ab]at g;obtain⟨⟨v2,ax⟩,T⟩:∃S,S=ba L E k:=⟨_,rfl⟩;rw[<-T]at g Y;simp only[<-T]at Q;try dsimp only at g Q Y
   rw[g];dsimp only;have ag:(256:Nat)^k*p<=4294967296:=by
    rw[t,<-ow];have am:(256:Nat)^(k+ad)<=256^4:=ke;exact am
   have an:v2*p<=4294967296:=fE (j7 p m) ag;obtain⟨ar,X⟩:=y (v2*p);have ao:(v2:Int)* (p:Int)=(ar:Int):=by rw[X];simp
   rw[<-t];rw[<-X]at an|-;clear g x T t r C Y ag X s Z;go_enter func420,ntmps420;go_upto_region 1 with fail;go_region_held3 (fun b=>b.cell? ⟨e,0,none⟩=some (I c)/\b.cell? ⟨d.heap.size,0,none⟩=some (j aj)/\b.cell? ⟨d.heap.size,1,none⟩=some (j ad)) (first|go_keep|exact⟨(i.cell (p:=⟨e,0,none⟩) n.out.lt O).trans n.out.V8,o.out.V8,o.out.c1⟩) (first|(go_at_call 392;refine(v _ n).out.mono ?_;rintro u aw ⟨rfl,aa,i⟩;have o:=l (ae.out.more i N)));all_goals
    have H:=l (n.out.Xy (i.mono F) aa).drew;have av:=l (o.out.more (Kept.refl [] _).drew F);have aC:=o.out.c2;have ak:=o.out.c3;go_upto_region 3 with fail;go_region_held3 (fun b=>b.cell? ⟨e,0,none⟩=some (I c)/\b.cell? ⟨d.heap.size,2,none⟩=some (j E)/\b.cell? ⟨d.heap.size,3,none⟩=some (j k)) (first|go_keep|exact⟨(A.cell (p:=⟨e,0,none⟩) H.out.lt O).trans H.out.V8,af.out.c2,af.out.c3⟩) (first|(go_at_call 392;refine(Q _ H).out.mono ?_;rintro u aJ ⟨rfl,aq,A⟩;have af:=l (av.out.more A N)));all_goals
     have aE:=af.out.c1;go_wp2_with(go_at_call 421;refine(P.out _).mono ?_;rintro u w3 ⟨rfl,rfl⟩);go_ret;refine⟨?_,?_,?_⟩
     . first|rfl|(simp;done)|(simp[ao];done)
     . exact H.out.Xy (A.mono F) aq
     . exact((ac.trans (i.mono F)).drew).trans (A.mono F)
 . have au:decide (0< (k:Int))=false:=M;rw[z ab]at g;rw[g];dsimp only;clear g x t r C s Z P;go_enter func420,ntmps420;go_upto_region 1 with fail;go_region_held3 (fun b=>b.cell? ⟨e,0,none⟩=some (I c)/\b.cell? ⟨d.heap.size,0,none⟩=some (j aj)/\b.cell? ⟨d.heap.size,1,none⟩=some (j ad)) (first|go_keep|exact⟨(i.cell (p:=⟨e,0,none⟩) n.out.lt O).trans n.out.V8,o.out.V8,o.out.c1⟩) (first|(go_at_call 392;refine(v _ n).out.mono ?_;rintro u aw ⟨rfl,aa,i⟩;have o:=l (ae.out.more i N)));all_goals
    have ak:=o.out.c3;go_wp2_with fail;go_ret;exact⟨rfl,n.out.Xy (i.mono F) aa,ac.trans (i.mono F)⟩
def ae6 (d c u H k:Nat)(g:ai)(v:aT g.b)(a:dI)(aa:Nat)(Q:vV a aa)(aB:aa<=4)(aA:1<=a.WO)(n:Nat)(S:G n)(e:D)(h:Hid (V e d c u H k g)):
 Calls prog 422 #[I d,jl a,j n] e fun s b=>s=.returned (.tuple #[])/\V b d c u H k {g with b:=iF g.b a n}/\Kept [c,k] e b:=by
 obtain⟨aq,ar,-,-,-,-,au⟩:=id Q;have aE:=h.out.Wt.lt;have aG:=h.out.Wt.Ww;have aF:=h.out.lt;have f:=l (h.out.alloc (k8 a)).drew;have X:=l ((lY.new e a).more (Kept.refl [] _).drew F);have U:Kept [c,k] e (e.alloc (k8 a)).drew:=pF;have av:=h.out.V8;have x:=ol v a.Xd a.WO n S;have N:=fun W (O:Hid (V W d c u H k g))=>l (xT c k g.b v a.Xd a.WO m m m m n S W (l O.out.Wt));have o:iF g.b a n=iF g.b a n:=rfl;conv at o=>rhs;unfold iF
 obtain⟨Y,w⟩:=y (ch g.b a.Xd a.WO n);rw[<-w]at o x;simp only[<-w]at N;have aj:0< (256:Nat)^a.WO:=Ax;have ak:(256:Nat)^a.WO<=4294967296:=by
  have ah:(256:Nat)^a.WO<=256^4:=ke;exact ah
 have L:=l (xV a.WO m);obtain⟨p,P⟩:=y (256^a.WO);simp only[<-P]at L aj ak o;unfold jl;unfold k8 at f X U;obtain⟨ac,ab,ad,r,az,aI⟩:=a;dsimp only at *;have K:¬e.heap.size∈ [c,k]:=M;have t:¬d∈ [c,k]:=Ln;by_cases Z:0<r
 . have an:decide (0< (r:Int))=true:=M;obtain⟨E,hu⟩:=y (n/p);have al:G E:=by rw[hu];exact bL (ln _ _) S
   have aD:(n:Int).tdiv (p:Int)=(E:Int):=by rw[hu,hB (by omega)];simp
   have aJ:=fk (E:Int) m;have aC:¬p=0:=J;have af:=fun W (O:Hid (V W d c u H k {g with b:=Y}))=>l (xT c k Y x ad r m m m m E al W (l O.out.Wt));rw[B Z,<-hu]at o;rw[o];clear o w P x v Q hu;go_enter func422,ntmps422;go_upto_region 1 with fail;go_region_held3 (fun b=>b.cell? ⟨d,0,none⟩=some (I c)/\b.cell? ⟨e.heap.size,0,none⟩=some (j ac)/\b.cell? ⟨e.heap.size,1,none⟩=some (j ab)) (first|go_keep|exact⟨(i.cell (p:=⟨d,0,none⟩) f.out.lt t).trans f.out.V8,q.out.V8,q.out.c1⟩) (first|(go_at_call 428;refine(N _ f).out.mono ?_;rintro s ap ⟨rfl,T,i⟩;have q:=l (X.out.more i K)));all_goals
    have C:=l (f.out.Xy (i.mono F) T).drew;have ao:=l (q.out.more (Kept.refl [] _).drew F);have d0:=(i.cell (p:=⟨d,0,none⟩) f.out.lt t).trans f.out.V8;obtain⟨aw,ax,ay,ag,-,-,-,-⟩:=q.out;go_upto_region 4 with(go_at_call 421;refine(L.out _).mono ?_;rintro s w3 ⟨rfl,rfl⟩);go_region_held3 (fun b=>b.cell? ⟨d,0,none⟩=some (I c)/\b.cell? ⟨e.heap.size,2,none⟩=some (j ad)/\b.cell? ⟨e.heap.size,3,none⟩=some (j r)) (first|go_keep|exact⟨(A.cell (p:=⟨d,0,none⟩) C.out.lt t).trans C.out.V8,ae.out.c2,ae.out.c3⟩) (first|(go_at_call 428;refine(af _ C).out.mono ?_;rintro s aH ⟨rfl,am,A⟩;have ae:=l (ao.out.more A K)));all_goals
     go_wp2_with fail;go_end0;exact⟨rfl,C.out.Xy A am,((U.trans i).drew).trans A⟩
 . have an:decide (0< (r:Int))=false:=M;rw[z Z]at o;rw[o];clear o w P x v Q L;go_enter func422,ntmps422;go_upto_region 1 with fail;go_region_held3 (fun b=>b.cell? ⟨d,0,none⟩=some (I c)/\b.cell? ⟨e.heap.size,0,none⟩=some (j ac)/\b.cell? ⟨e.heap.size,1,none⟩=some (j ab)) (first|go_keep|exact⟨(i.cell (p:=⟨d,0,none⟩) f.out.lt t).trans f.out.V8,q.out.V8,q.out.c1⟩) (first|(go_at_call 428;refine(N _ f).out.mono ?_;rintro s ap ⟨rfl,T,i⟩;have q:=l (X.out.more i K)));all_goals
    have ag:=q.out.c3;go_wp2_with fail;go_end0;exact⟨rfl,f.out.Xy i T,U.trans i⟩
section
attribute [local go_sem ↓] Go.wp_at_zero Go.wp_at_succ
def Kept.ZC {W d:D}(e:Kept [] W d)(b:Nat):(∀a,b<W.heap.size->d.cell? ⟨b,a,none⟩=W.cell? ⟨b,a,none⟩)/\(∀a,b<W.heap.size->d.frozen? ⟨b,a,none⟩=W.frozen? ⟨b,a,none⟩):=
 ⟨fun a c=>e.cell (p:=⟨b,a,none⟩) c (by simp),fun a c=>e.frozen (p:=⟨b,a,none⟩) c (by simp)⟩
def tm {b a:Int}{L:Nat}(c:es b a=true):a1 b a L=false/\bF b a L=true:=by
 have d:a1 b a L=false:=by unfold es at c;unfold a1;simp at c|-;omega
 exact⟨d,by rw[qB,c];simp⟩
def n2 {b a:Int}{L:Nat}(c:e4 b a=true):a1 b a L=false/\bF b a L=true/\es b a=false:=by
 have d:a1 b a L=false:=by unfold e4 at c;unfold a1;simp at c|-;omega
 have e:es b a=false:=by unfold e4 at c;unfold es;simp at c|-;omega
 exact⟨d,by rw[qB,c];simp,e⟩
def Dh (b:P)(c d:Int)(a:es c d=true):ba b c d=(qF b (c-33554432),b):=by
 obtain⟨f,g⟩:=tm (L:=b.o.length) a;unfold ba;exact JA
def US (b:P)(c d:Int)(a:e4 c d=true):ba b c d=hR b (c-268435456):=by
 obtain⟨e,f,-⟩:=n2 (L:=b.o.length) a;unfold ba;rw[e,f,z (by simp),B rfl];unfold e4 at a;exact JB
def E.ZD {d:D}{a b:Nat}{c:N}{p:Addr}(e:E d a b c)(f:a≠p.block)(g:b≠p.block)(h:Value):E (d.setCell p h) a b c:=e.more (G:=[p.block]) ((Kept.refl _ _).setCell (.inl (by simp)) _) (by simpa using f) (by simpa using g)
def Kept.Xb {a:Nat}{b:List Nat}{c e:D}(f:Kept (a::b) c e)(g:Nat)(d:Value):Kept (a::b) c (e.setCell ⟨a,g,none⟩ d):=f.setCell (.inl (by simp)) d
structure sd (a b:P):Prop where
 o:b.o=a.o
 Wj:b.Wj=a.Wj
 time:b.time=a.time
 Wh:b.Wh=a.Wh
 cmp:b.cmp=a.cmp
 Wv:b.Wv=a.Wv
def E.setPort {f c e b}(i:E f c e b)(a:P)(k:sd b.b a):E (((((f.setCell ⟨c,66,none⟩ (j a.enable)).setCell ⟨c,67,none⟩ (j a.Wr)).setCell ⟨c,68,none⟩ (.bool a.lost)).setCell ⟨c,69,none⟩ (.string a.rx)).setCell ⟨c,70,none⟩ (.string a.Wc)) c e (b.V7 a):=by
 have d:b.V7 a={b with b:={b.b with enable:=a.enable,Wr:=a.Wr,lost:=a.lost,rx:=a.rx,Wc:=a.Wc}}:=by
  obtain⟨l,y,h,L,d,M⟩:=k;unfold N.V7;cases b with|mk g h U Q O T R S=>cases g with|mk n q r s t u v w x o p=>cases a with|mk z C D F G H I J K A B=>simp_all
 rw[d];exact((((i.set (X':={b with b:={b.b with enable:=a.enable}}) 66 _ rfl rfl m).set (X':={b with b:={b.b with enable:=a.enable,Wr:=a.Wr}}) 67 _ rfl rfl m).set (X':={b with b:={b.b with enable:=a.enable,Wr:=a.Wr,lost:=a.lost}}) 68 _ rfl rfl m).set (X':={b with b:={b.b with enable:=a.enable,Wr:=a.Wr,lost:=a.lost,rx:=a.rx}}) 69 _ rfl rfl m).set 70 _ rfl rfl m
structure AZ (a b:P):Prop where
 o:b.o=a.o
 enable:b.enable=a.enable
 Wr:b.Wr=a.Wr
 lost:b.lost=a.lost
 rx:b.rx=a.rx
 Wc:b.Wc=a.Wc
def E.ZE {f c e b}(i:E f c e b)(a:P)(k:AZ b.b a):E (((((f.setCell ⟨c,61,none⟩ (j a.Wj)).setCell ⟨c,62,none⟩ (j a.time)).setCell ⟨c,63,none⟩ (j a.Wh)).setCell ⟨c,64,none⟩ (j a.cmp)).setCell ⟨c,65,none⟩ (j a.Wv)) c e (b.V7 a):=by
 have d:b.V7 a={b with b:={b.b with Wj:=a.Wj,time:=a.time,Wh:=a.Wh,cmp:=a.cmp,Wv:=a.Wv}}:=by
  obtain⟨l,y,h,L,d,M⟩:=k;unfold N.V7;cases b with|mk g h U Q O T R S=>cases g with|mk n q r s t u v w x o p=>cases a with|mk z C D F G H I J K A B=>simp_all
 rw[d];exact((((i.set (X':={b with b:={b.b with Wj:=a.Wj}}) 61 _ rfl rfl m).set (X':={b with b:={b.b with Wj:=a.Wj,time:=a.time}}) 62 _ rfl rfl m).set (X':={b with b:={b.b with Wj:=a.Wj,time:=a.time,Wh:=a.Wh}}) 63 _ rfl rfl m).set (X':={b with b:={b.b with Wj:=a.Wj,time:=a.time,Wh:=a.Wh,cmp:=a.cmp}}) 64 _ rfl rfl m).set 65 _ rfl rfl m
def e3 (b a:Nat):Value:=.agg #[j b,j a]
def Fw (a b:Nat)(c:D):
 aE 270 #[I a,e3 b 0] (j 0) c:=by
 unfold e3;go_enter func270,ntmps270;exact JC
def aiq (h p:Nat)(e:N)(a c:Nat)(x:a<17184063488)(w:1<=c)(i:es a c=true)(k)(d:Hid (E k h p e)):
 aE 270 #[I h,e3 a c] (j (ba e.b a c).1) k:=by
 have v:=d.out.lt;have q:=d.out.Yw;have r:=d.out.XP;have s:=d.out.XQ;have t:=d.out.Yx;have u:=d.out.Yy;rw[Dh e.b a c i];have n:Hid (∀W,O 341 #[j a,j c] (.bool true) W):=Gy;have wr:IntKind.i64.wrap ((a:Int)-33554432)=(a:Int)-33554432:=dG;have f:=fun W=>l (ai4 e.b ((a:Int)-33554432) W);obtain⟨A,g⟩:=y (qF e.b ((a:Int)-33554432));simp only[<-g]at f|-;have z:((c:Int)==0)=false:=M;unfold ee at f;clear g i d;unfold e3;go_enter func270,ntmps270;go_upto_region 4 with(go_at_call 341;refine(n.out _).mono ?_;rintro o C ⟨rfl,rfl⟩);go_region_with(go_at_call 342;refine(f _).out.mono ?_;rintro o B ⟨rfl,b⟩);all_goals
  go_wp2_with fail;go_ret;refine⟨rfl,?_⟩;exact im
def aio (f p:Nat)(d:N)(x:d.b.enable<8)(a c:Nat)(T:a<17184063488)(R:1<=c)(g:e4 a c=true)(n)(b:Hid (E n f p d)):
 an 270 #[I f,e3 a c] (j (ba d.b a c).1) [f] f p (d.V7 (ba d.b a c).2) n:=by
 have P:=b.out.lt;have B:=b.out.XR;have C:=b.out.XS;have D:=b.out.XT;have G:=b.out.XK;have H:=b.out.XL;have U:=b.out.Ww;have o:=(n2 (L:=0) g).2.2;rw[US d.b a c g];have w:Hid (∀W,O 341 #[j a,j c] (.bool false) W):=Gz;have u:Hid (∀W,O 343 #[j a,j c] (.bool true) W):=GA;have wr:IntKind.i64.wrap ((a:Int)-268435456)=(a:Int)-268435456:=dG;have i:=fun W=>l (ahH d.b x ((a:Int)-268435456) W);have k:sd d.b (hR d.b ((a:Int)-268435456)).2:=by
  unfold hR;repeat' split
  all_goals exact⟨rfl,rfl,rfl,rfl,rfl,rfl⟩
 obtain⟨v,q⟩:=y (hR d.b ((a:Int)-268435456));simp only[<-q]at i k|-;obtain⟨Y,s⟩:=v;dsimp only at i k|-;have X:((c:Int)==0)=false:=M;unfold bx at i;have t:=l k;clear q g o k;unfold e3;go_enter func270,ntmps270;go_upto_region 6 with(first|(go_at_call 341;refine(w.out _).mono ?_;rintro r A ⟨rfl,rfl⟩)|(go_at_call 343;refine(u.out _).mono ?_;rintro r A ⟨rfl,rfl⟩));go_region_with(go_at_call 344;refine(i _).out.mono ?_;rintro r z ⟨rfl,h⟩;obtain⟨V,K⟩:=h.ZC (n.heap.size+1));all_goals
  have e:E z f p d:=yT;have d66:=e.XR;have d67:=e.XS;have d68:=e.XT;have d69:=e.XK;have d70:=e.XL;have L:=e.Wb;have Q:=e.lt;have S:¬f=n.heap.size+1:=J;go_wp2_with fail;go_ret;refine⟨rfl,?_,?_⟩
  . repeat(first|(with_reducible exact e)|(with_reducible refine E.alloc ?_ _)|(with_reducible refine E.drew ?_)|(with_reducible refine E.setPort ?_ s t.out)|(with_reducible refine E.ZD ?_ aL aL _))
  . exact zU
theorem aip (g h:Nat)(d:N)(C:d.b.o.length<=65536)(b c:Nat)(G:b<17184063488)(x:1<=c)(z:c<=4)(f:a1 b c d.b.o.length=true)(i)(a:Hid (E i g h d)):
 aE 270 #[I g,e3 b c] (j (ba d.b b c).1) i:=by
 have F:=a.out.lt;have k:es b c=false:=by
  cases e:es b c with
  |false=>rfl
  |true=>rw[(tm (L:=d.b.o.length) e).1]at f;cases f
 have n:e4 b c=false:=by
  cases e:e4 b c with
  |false=>rfl
  |true=>rw[(n2 (L:=d.b.o.length) e).1]at f;cases f
 have q:ba d.b b c=(cc d.b (((b:Int)-2147483648).toNat) c,d.b):=by unfold ba;rw[B f];simp
 rw[q];have A:2147483648<=b/\b-2147483648+c<=d.b.o.length:=by
  have e:=f;unfold a1 at e;simp at e;omega
 obtain⟨p,r⟩:=y (((b:Int)-2147483648).toNat);rw[<-r];have w:Hid (∀W,O 341 #[j b,j c] (.bool false) W):=GB;have v:Hid (∀W,O 343 #[j b,j c] (.bool false) W):=GC;have o:=l (fun W e=>tK g h d C b p c m x z m W e);have D:Hid (E (i.alloc (.cells #[j b,j c] 231)) g h d):=b7;obtain⟨J,s⟩:=y (cc d.b p c);simp only[<-s]at o|-;have H:((c:Int)==0)=false:=M;clear s k n r A q f;unfold e3;go_enter func270,ntmps270;go_wp2_with(first|(go_at_call 341;refine(w.out _).mono ?_;rintro t u ⟨rfl,rfl⟩)|(go_at_call 343;refine(v.out _).mono ?_;rintro t u ⟨rfl,rfl⟩)|(go_at_call 263;refine(o.out _ D).mono ?_;rintro t u ⟨rfl,rfl⟩));exact vs
theorem ot (e f:Nat)(a:N)(p:aT a.b)(c b:Nat)(m:c<17184063488)(l:1<=b)(s:b<=4)(n:bF c b a.b.o.length=true)(h)(g:Hid (E h e f a)):
 an 270 #[I e,e3 c b] (j (ba a.b c b).1) [e,f] e f (a.V7 (ba a.b c b).2) h:=by
 rw[qB]at n;cases k:a1 c b a.b.o.length with
 |true=>
  have i:(ba a.b c b).2=a.b:=by unfold ba;rw[B k]
  rw[i];refine(aip e f a p.o c b m l s k h g).mono ?_;rintro q r ⟨rfl,d⟩;exact⟨rfl,g.out.kept d,d.mono F⟩
 |false=>
  cases o:es c b with
  |true=>
   have i:(ba a.b c b).2=a.b:=by rw[Dh a.b c b o]
   rw[i];refine(aiq e f a c b m l o h g).mono ?_;rintro q r ⟨rfl,d⟩;exact⟨rfl,g.out.kept d,d.mono F⟩
  |false=>
   rw[k,o]at n;refine(aio e f a p.enable c b m l (by simpa using n) h g).mono ?_;rintro q r ⟨rfl,t,d⟩;exact⟨rfl,t,d.mono F⟩
structure ey (a:ai):Prop where
 b:aT a.b
 f:ay a.f
 soft:a.f.soft<=546
 x:a.x.length=32
 WE:∀i,a.x.getD i 0<4294967296
 V3:a.V3<4294967296
 res:a.res<17184063488
def V.XM {d:D}{h f g e i:Nat}{b:ai}(c:V d h f g e i b)(a:Nat)(k:a<32):d.cell? ⟨e,a,none⟩=some (j (b.x.getD a 0)):=by
 have l:=c.XD;rw[c.cr a (by omega)];simp[q7,fa (show a<b.x.length by omega)]
def gK (a:ai)(i:ak):Nat:=am ((a.x.getD i.V1 0:Int)+i.V2)
def sM (b:Nat)(c:Bool)(a:Nat):Int:=if(c&&decide (256^b/2<=a))=true then(a:Int)- ((256^b:Nat):Int)else a
def wR (b:ai)(i:ak)(c:Nat)(d:Bool)(a:dI×P):(Int×Int×Int)×ai:=
 if a.1.fault=0 then((am ((b.V3:Int)+i.V4),-1,0),dW {b with b:=(dU a.2 a.1).2} i.rd (sM c d (dU a.2 a.1).1))else((0,l6 a.1.fault 1,a.1.XF),{b with b:=a.2})
def iv (a:ai)(i:ak)(b:Nat)(c:Bool):(Int×Int×Int)×ai:=wR a i b c (a2 a.b a.f (gK a i) b 1)
def xC (b:ai)(i:ak)(a:dI×P):(Int×Int×Int)×ai:=
 if a.1.fault=0 then((am ((b.V3:Int)+i.V4),-1,0),{b with b:=iF a.2 a.1 (b.x.getD i.V6 0)})else((0,l6 a.1.fault 2,a.1.XF),{b with b:=a.2})
def iG (a:ai)(i:ak)(b:Nat):(Int×Int×Int)×ai:=xC a i (a2 a.b a.f (gK a i) b 2)
def cz (a:Int×Int×Int):Value:=gC a.1 a.2.1 a.2.2
def xu (a:ai)(b:Nat)(c:Int):(dW a b c).V3=a.V3:=by unfold dW;split<;>rfl
structure bg (b:D)(a:Nat)(e:List Value):Prop where
 cell:∀c d,e[c]?=some d->b.cell? ⟨a,c,none⟩=some d
 Wb:∀f,b.frozen? ⟨a,f,none⟩=false
 lt:a<b.heap.size
def bg.more {h w':D}{a:Nat}{d:List Value}{F:List Nat}(b:bg h a d)(c:Kept F h w')(e:¬a∈F):bg w' a d:=⟨fun f j i=>(c.cell (p:=⟨a,f,none⟩) b.lt e).trans (b.cell f j i),fun g=>(c.frozen (p:=⟨a,g,none⟩) b.lt e).trans (b.Wb g),aR b.lt c.size⟩
def bg.kept {d a:D}{b:Nat}{c:List Value}(e:bg d b c)(f:Kept [] d a):bg a b c:=e.more f (by simp)
theorem bg.drew {a:D}{b:Nat}{c:List Value}(d:bg a b c):bg a.drew b c:=d.kept (Kept.refl [] a).drew
theorem bg.alloc {a:D}{b:Nat}{c:List Value}(e:bg a b c)(d:Obj):bg (a.alloc d) b c:=e.kept ((Kept.refl [] a).alloc d)
def bg.new (b:D)(a:List Value)(c:Nat):bg (b.alloc (.cells a.toArray c)) b.heap.size a:=⟨fun e g d=>by simp[d],fun f=>by simp,by simp⟩
def bg.Yo (b:D)(e:Obj)(a:List Value)(c:Nat):bg ((b.alloc e).alloc (.cells a.toArray c)) (b.heap.size+1) a:=⟨fun f h d=>by rw[fK _ _ _ _ _ (by simp)];simpa using d,fun g=>by rw[fp _ _ _ _ _ (by simp)],by simp⟩
def nz (a:ai)(i:ak):Nat:=if i.op<=63 then a.x.getD i.V1 0 else i.V1
def kG (a:ai)(i:ak):Nat:=if i.op=62\/i.op=65 then gt a.f a.b i.V2 |||nz a i else if i.op=63\/i.op=66 then aI (gt a.f a.b i.V2) (nz a i)else nz a i
def is (a:ai)(i:ak)(b:Nat):(Int×Int×Int)×ai:=
 if nU a.f i.V2.toNat (cW i)=true then((am ((a.V3:Int)+i.V4),-1,0),dW {a with f:=if cW i=true then cf a.f i.V2 (kG a i)else a.f} i.rd (bD a.f a.b i.V2))else((0,2,b),a)
def kV (a:N)(i:ak)(b p:Nat):N:={a6 a i.rd (cc a.b p 4)with W9:=true,WU:=b}
def hT (a:N)(b:Nat):Bool:=!a.W9 ||!decide (a.WU=b)
def hU (a:N)(i:ak)(b p:Nat):N:=hr (a6 (bif hT a b then a else bZ a (bu a.b.o p 4 (a.x.getD i.V6 0))) i.rd (hT a b).toNat)
def kB (X:N)(i:ak)(p:Nat):N:=a6 (bZ X (bu X.b.o p 4 (cp i.op (cc X.b p 4) (X.x.getD i.V6 0)))) i.rd (cc X.b p 4)
def C8 (a:P)(p:Nat):cc a p 4<4294967296:=s3 a p 4
def ON (c:Int)(a b:Nat)(d:G a)(e:G b)(g:52<=c)(h:c<=60):cp c a b<4294967296:=by
 have f:c=52\/c=53\/c=54\/c=55\/c=56\/c=57\/c=58\/c=59\/c=60:=J;rcases f with rfl|rfl|rfl|rfl|rfl|rfl|rfl|rfl|rfl
 . exact e
 . show(a+b)%4294967296<_;omega
 . exact yq (n:=32) d e
 . exact bL gO d
 . exact fu a b 32 d e
 . show(if aY a<aY b then a else b)<_;split<;>assumption
 . show(if aY b<aY a then a else b)<_;split<;>assumption
 . show(if a<b then a else b)<_;split<;>assumption
 . show(if b<a then a else b)<_;split<;>assumption
def ag9 (d f c)(k:af c)(i:ak)(v:aU i)(g p:Nat)(x:g=2147483648+p)(n:p+4<=c.b.o.length)(r)(a:Hid (E r d f c)):
 an 276 #[I d,ag i,j g] (.tuple #[]) [d,f] d f (kV c i g p) r:=by
 have C:=a.out.lt;have o:=k.b.o;have q:Hid (E (r.alloc (az i)) d f c):=b7;unfold az at q;have s:Hid (∀W,Hid (E W d f c)->O 263 #[I d,j g,j 4] (j (cc c.b p 4)) W):=G4;have u:=l (fun W h=>fZ d f c k.x i.rd (cc c.b p 4) v.rd W h);have t:=l (fun W h=>aiD d f (a6 c i.rd (cc c.b p 4)) g W h);unfold kV;obtain⟨M,w⟩:=y (cc c.b p 4);simp only[<-w]at s u t|-;unfold ag;obtain⟨H,J,K,L,D,G⟩:=i;dsimp only at *;clear a k v w x n o;go_enter func276,ntmps276;go_wp2_with fail;refine(s.out _ q).mono ?_;rintro A B ⟨rfl,rfl⟩;go_wp2_with fail;refine(u.out _ q).mono ?_;rintro A B ⟨rfl,z,b⟩;go_wp2_with fail;refine(t.out _ (l z)).mono ?_;exact Aa
def ahm (d f c)(t:af c)(i:ak)(A:aU i)(g p:Nat)(P:g=2147483648+p)(n:p+4<=c.b.o.length)(k:52<=i.op/\i.op<=60)(v)(a:Hid (E v d f c)):
 an 278 #[I d,ag i,j g] (.tuple #[]) [d,f] d f (kB c i p) v:=by
 have aa:=a.out.lt;have ab:=a.out.Ww;have o:=t.b.o;have u:Hid (E (v.alloc (az i)) d f c):=b7;unfold az at u;have z:=t.WE i.V6;have B:=C8 c.b p;have J:=ON i.op _ _ B z k.1 k.2;have G:Hid (∀W,Hid (E W d f c)->O 263 #[I d,j g,j 4] (j (cc c.b p 4)) W):=G4;have D:=l (fun W h=>bV d f c i.V6 A.V6 W h);have x:=l (ahl i.op k.1 k.2 _ _ B z);have q:Hid (∀W,Hid (E W d f c)->an 347 #[I d,j g,j 4,j (cp i.op (cc c.b p 4) (c.x.getD i.V6 0))] (.tuple #[]) [f] d f (bZ c (bu c.b.o p 4 (cp i.op (cc c.b p 4) (c.x.getD i.V6 0)))) W):=l (fun W h=>tL d f c o g p 4 m m m n _ J W h);have s:=l (fun W h=>fZ d f (bZ c (bu c.b.o p 4 (cp i.op (cc c.b p 4) (c.x.getD i.V6 0)))) t.x i.rd (cc c.b p 4) A.rd W h);unfold kB;obtain⟨Y,M⟩:=y (cc c.b p 4);obtain⟨N,K⟩:=y (c.x.getD i.V6 0);simp only[<-M,<-K]at G D x q s|-;obtain⟨r,L⟩:=y (cp i.op Y N);simp only[<-L]at x q s|-;obtain⟨Z,H⟩:=y (bZ c (bu c.b.o p 4 r));simp only[<-H]at q s|-;unfold ag;obtain⟨T,U,V,X,R,S⟩:=i;dsimp only at *;clear a t A M P n o L H K z B J k;go_enter func278,ntmps278;go_wp2_with(first|(go_at_call 263;refine(G.out _ u).mono ?_;rintro C w ⟨rfl,rfl⟩)|(go_at_call 40;refine(D.out _ u).mono ?_;rintro C w ⟨rfl,rfl⟩)|(go_at_call 350;refine(x.out _).mono ?_;rintro C w ⟨rfl,rfl⟩));refine(q.out _ u).mono ?_;rintro C w ⟨rfl,Q,b⟩;obtain⟨ac,ad,ae,ah,ai,aj,al,ar,au,am,av,ao,aw,ap,ax,aq⟩:a8 w v.heap.size T U V X R S:=iX;go_wp2_with fail;refine(s.out _ (l Q)).mono ?_;exact Aa
def aiN (d f c)(o:af c)(i:ak)(s:aU i)(g p:Nat)(Q:g=2147483648+p)(x:p+4<=c.b.o.length)(n:hT c g=true)(t)(a:Hid (E t d f c)):
 an 277 #[I d,ag i,j g] (.tuple #[]) [d,f] d f (hU c i g p) t:=by
 have U:=a.out.lt;have z:=o.b.o;have K:Hid (E (t.alloc (az i)) d f c):=b7;unfold az at K;have w:=o.WE i.V6;have M:=a.out.XJ;have N:=a.out.XC;have L:=l (fun W k=>bV d f c i.V6 s.V6 W k);have u:Hid (∀W,Hid (E W d f c)->an 347 #[I d,j g,j 4,j (c.x.getD i.V6 0)] (.tuple #[]) [f] d f (bZ c (bu c.b.o p 4 (c.x.getD i.V6 0))) W):=G5;unfold hU;rw[n];obtain⟨h,q⟩:=y ((bif true then c else bZ c (bu c.b.o p 4 (c.x.getD i.V6 0))));have v:h.x.length=32:=by rw[q];exact o.x
 rw[<-q];rw[show(bZ c (bu c.b.o p 4 (c.x.getD i.V6 0)))=bZ c (bu c.b.o p 4 (c.x.getD i.V6 0))from rfl]at u;have H:Hid (∀W,Hid (E W d f h)->an 198 #[I d,j i.rd,j ((true:Bool).toNat:Nat)] (.tuple #[]) [d] d f (a6 h i.rd (true:Bool).toNat) W):=l (fun W k=>fZ d f h v i.rd (true:Bool).toNat s.rd W k);have J:=l (fun W k=>qV d f (a6 h i.rd (true:Bool).toNat) W k);have G:Hid (∀W,O 256 #[.bool true] (j ((true:Bool).toNat:Nat)) W):=l (fun W=>mJ true W);obtain⟨S,A⟩:=y (c.x.getD i.V6 0);simp only[<-A]at L u;obtain⟨T,B⟩:=y ((true:Bool).toNat);simp only[<-B]at H J G|-;unfold ag;obtain⟨Y,aa,ab,ac,V,X⟩:=i;dsimp only at *;have r:(!c.W9 ||((c.WU:Int) !=g))=true:=G6;obtain⟨R,C⟩:=y (c.W9);obtain⟨ah,D⟩:=y (c.WU);rw[<-C]at M r;rw[<-D]at N r;have P:h=c:=q;subst P;clear q;clear a o s Q x z A w n v B C D;cases R;case false=>
  exact Kd
 case true=>
  have Z:((ah:Int) !=g)=true:=by simpa using r
  exact Kd
def aiO (d f c)(s:af c)(i:ak)(B:aU i)(g p:Nat)(U:g=2147483648+p)(x:p+4<=c.b.o.length)(n:hT c g=false)(v)(a:Hid (E v d f c)):
 an 277 #[I d,ag i,j g] (.tuple #[]) [d,f] d f (hU c i g p) v:=by
 have am:=a.out.lt;have ao:=a.out.Ww;have z:=s.b.o;have C:Hid (E (v.alloc (az i)) d f c):=b7;unfold az at C;have w:=s.WE i.V6;have S:=a.out.XJ;have T:=a.out.XC;have D:=l (fun W o=>bV d f c i.V6 B.V6 W o);have r:Hid (∀W,Hid (E W d f c)->an 347 #[I d,j g,j 4,j (c.x.getD i.V6 0)] (.tuple #[]) [f] d f (bZ c (bu c.b.o p 4 (c.x.getD i.V6 0))) W):=G5;unfold hU;rw[n];obtain⟨k,t⟩:=y ((bif false then c else bZ c (bu c.b.o p 4 (c.x.getD i.V6 0))));have L:k.x.length=32:=by rw[t];exact s.x
 rw[<-t];rw[show(bZ c (bu c.b.o p 4 (c.x.getD i.V6 0)))=(bif false then c else bZ c (bu c.b.o p 4 (c.x.getD i.V6 0)))from rfl]at r;have H:Hid (∀W,Hid (E W d f k)->an 198 #[I d,j i.rd,j ((false:Bool).toNat:Nat)] (.tuple #[]) [d] d f (a6 k i.rd (false:Bool).toNat) W):=l (fun W o=>fZ d f k L i.rd (false:Bool).toNat B.rd W o);have J:=l (fun W o=>qV d f (a6 k i.rd (false:Bool).toNat) W o);have G:Hid (∀W,O 256 #[.bool false] (j ((false:Bool).toNat:Nat)) W):=l (fun W=>mJ false W);obtain⟨R,A⟩:=y (c.x.getD i.V6 0);simp only[<-A]at D r;obtain⟨al,M⟩:=y ((false:Bool).toNat);simp only[<-M]at H J G|-;unfold ag;obtain⟨ab,ac,ae,ai,Z,aa⟩:=i;dsimp only at *;have q:(!c.W9 ||((c.WU:Int) !=g))=false:=G6;obtain⟨ad,N⟩:=y (c.W9);obtain⟨ah,P⟩:=y (c.WU);rw[<-N]at S q;rw[<-P]at T q;have K:(bif false then c else bZ c (bu c.b.o p 4 R))=k:=by rw[t,A]
 simp only[K]at r;clear t K;clear a s B U x z A w n L M N P;cases ad;case false=>
  simp at q
 case true=>
  have aI:((ah:Int) !=g)=false:=by simpa using q
  clear q;go_enter func277,ntmps277;go_wp2_with(go_at_call 40;refine(D.out _ C).mono ?_;rintro u Q ⟨rfl,rfl⟩);refine(r.out _ C).mono ?_;rintro u Q ⟨rfl,V,b⟩;obtain⟨ap,aq,ar,au,av,aw,ax,aD,aE,ay,aF,aA,aG,aB,aH,aC⟩:a8 Q v.heap.size ab ac ae ai Z aa:=iX;go_upto_region 5 with fail;go_region_with(first|(go_at_call 256;refine(G.out _).mono ?_;rintro u aj ⟨rfl,rfl⟩)|(go_at_call 198;refine(H.out _ (l V.drew)).mono ?_;rintro u aj ⟨rfl,X,e⟩));all_goals
   go_wp2_with fail;refine(J.out _ (l X)).mono ?_;rintro u w3 ⟨rfl,Y,h⟩;go_wp2_with fail;go_end0;refine⟨rfl,Y,?_⟩;exact r0
def b9 (a:N)(b:Nat):Nat×Nat:=if b%32=0 then(a.c.Wy,a.c.WN)else if b%32=1 then(a.b.time,a.b.Wh)else if b%32=2 then(a.c.ret,a.c.We)else(0,0)
def bH (b:N)(a:Nat):Nat×Bool:=
 if 32<=a%256- (if 128<=a%256 then 128 else 0)then(0,false)else if a%32=1/\a<3072 then(0,false)else if 128<=a%256 then((b9 b a).2,true)else((b9 b a).1,true)
def ahV (m t:Nat)(k:N)(a:Nat)(H:2816<=a)(K:a<=3327)(o)(d:Hid (E o m t k)):
 aE 319 #[I m,j a] (.tuple #[j ((bH k a).1:Nat),.bool (bH k a).2]) o:=by
 have O:=d.out.lt;have u:¬m=o.heap.size:=J;have v:=d.out.Yb;have w:=d.out.Yc;have x:=d.out.XG;have A:=d.out.XH;have C:=d.out.XP;have D:=d.out.XQ;obtain⟨r,q⟩:=y (a%256);obtain⟨b,p⟩:=y (a%32);have G:(a:Int)%256=(r:Int):=J;have F:(a:Int)%32=(b:Int):=J;have L:b<32:=J;unfold bH b9;rw[<-q,<-p];clear q p d;by_cases c:128<=r
 . have s:decide ((128:Int)<=r)=true:=M;rw[B c];by_cases e:32<=r-128
   . rw[B e];have n:decide ((32:Int)<=(r:Int)-128)=true:=M;exact Kg
   . rw[z e];have n:decide ((32:Int)<=(r:Int)-128)=false:=M;clear e;by_cases f:b=0
     . subst f;rw[z (by omega),B c,B rfl];exact pC
     by_cases g:b=1
     . subst g;by_cases i:a<3072
       . exact Ki
       . rw[z (fun l=>i l.2),B c,z (by omega),B rfl];exact Kj
     by_cases h:b=2
     . subst h;rw[z (by omega),B c,z (by omega),z (by omega),B rfl];exact pC
     rw[z (by omega),B c,z f,z g,z h];exact Kh
 . have s:decide ((128:Int)<=r)=false:=M;rw[z c];by_cases e:32<=r-0
   . rw[B e];have n:decide ((32:Int)<=(r:Int))=true:=M;exact Kg
   . rw[z e];have n:decide ((32:Int)<=(r:Int))=false:=M;clear e;by_cases f:b=0
     . subst f;rw[z (by omega),z c,B rfl];exact pC
     by_cases g:b=1
     . subst g;by_cases i:a<3072
       . exact Ki
       . rw[z (fun l=>i l.2),z c,z (by omega),B rfl];exact Kj
     by_cases h:b=2
     . subst h;rw[z (by omega),z c,z (by omega),z (by omega),B rfl];exact pC
     rw[z (by omega),z c,z f,z g,z h];exact Kh
def aA (b:N)(a:Int):Nat×Bool:=
 if 256<=a/\a<=511 then bQ b a else if 768<=a/\a<=1023 then bO b a else if 2816<=a/\a<=3327 then bH b a.toNat else(0,decide (3857<=a/\a<=3860))
theorem j4 (c p b)(t:af b)(a:Int)(d)(o:Hid (E d c p b)):
 aE 246 #[I c,j a] (.tuple #[j ((aA b a).1:Nat),.bool (aA b a).2]) d:=by
 have r:=l (aib c p b t a d o);have q:=l (ahW c p b t a d o);have g:Hid (2816<=a/\a<=3327->aE 319 #[I c,j a] (.tuple #[j ((bH b a.toNat).1:Nat),.bool (bH b a.toNat).2]) d):=l (fun O=>by
  have:=ahV c p b a.toNat m m d o;rw[show((a.toNat:Nat):Int)=a by omega]at this;exact this)
 unfold aA;obtain⟨⟨S,R⟩,hS⟩:∃f,f=bQ b a:=⟨_,rfl⟩;obtain⟨⟨Q,P⟩,w⟩:∃f,f=bO b a:=⟨_,rfl⟩;obtain⟨⟨N,L⟩,v⟩:∃f,f=bH b a.toNat:=⟨_,rfl⟩;rw[<-hS]at r|-;rw[<-w]at q|-;simp only[<-v]at g|-;clear hS w v t o;by_cases e:256<=a/\a<=511
 . rw[B e];obtain⟨h,i⟩:=e;have A:decide (256<=a)=true:=by simp[h]
   have C:decide (a<=511)=true:=by simp[i]
   go_enter func246,ntmps246;go_wp2_with(go_at_call 317;refine r.out.mono ?_;rintro x D ⟨rfl,u⟩);exact Ae
 rw[z e];by_cases k:768<=a/\a<=1023
 . rw[B k];obtain⟨h,i⟩:=k;have A:decide (256<=a)=true:=M;have C:decide (a<=511)=false:=M;have H:decide (768<=a)=true:=by simp[h]
   have J:decide (a<=1023)=true:=by simp[i]
   clear e;go_enter func246,ntmps246;go_wp2_with(go_at_call 318;refine q.out.mono ?_;rintro x D ⟨rfl,u⟩);exact Ae
 rw[z k];by_cases n:2816<=a/\a<=3327
 . rw[B n];have G:=l (g.out n);obtain⟨h,i⟩:=n;have A:decide (256<=a)=true:=M;have C:decide (a<=511)=false:=M;have H:decide (768<=a)=true:=M;have J:decide (a<=1023)=false:=M;clear e k g;go_enter func246,ntmps246;go_wp2_with(go_at_call 319;refine G.out.mono ?_;rintro x D ⟨rfl,u⟩);exact Ae
 rw[z n];obtain⟨K,s⟩:=y (decide (3857<=a/\a<=3860));dsimp only;rw[<-s];have F:=l s;clear r q g s;go_enter func246,ntmps246;go_wp2_with fail;all_goals first
  | (exfalso;omega)
  | (go_ret2;refine⟨?_,Kept.refl _ _⟩;rw[F.out];simp_all<;>try first|omega|(rw[dZ];simp;omega))
def afW (a:Nat)(b:D):
 O 67 #[I a] (.tuple #[]) b:=by
 go_enter func67,ntmps67;exact r1
def af6 (a f:Nat)(d:N)(i:Int)(b:i<0\/32<=i)(c)(g:Hid (E c a f d)):
 O 26 #[I a,j i] (.tuple #[j 0,j 2]) c:=by
 rcases b with b|b
 . have e:decide (i<0)=true:=g0;exact KJ
 . have e:decide (i<0)=false:=M;have h:decide (i>=32)=true:=M;exact KJ
def af5 (b e:Nat)(a:N)(i:Nat)(d:i<32)(c)(g:Hid (E c b e a)):
 O 26 #[I b,j i] (.tuple #[j (a.x.getD i 0:Nat),j 0]) c:=by
 have f:=l (bV b e a i d c g);have k:decide ((i:Int)<0)=false:=bN;have m:decide ((i:Int)>=32)=false:=M;clear d;go_enter func26,ntmps26;go_wp2_with(go_at_call 40;refine f.out.mono ?_;rintro h n ⟨rfl,rfl⟩);exact r3
def j6 (a:N)(b:Int):Nat×Int:=if(aA a b).2=true then((aA a b).1,0)else(0,2)
def afS (c g a)(f:af a)(b:Int)(d)(k:Hid (E d c g a)):
 aE 170 #[I c,j b] (.tuple #[j ((j6 a b).1:Nat),j (j6 a b).2]) d:=by
 have h:=l (j4 c g a f b d k);unfold j6;obtain⟨⟨m,i⟩,e⟩:∃r,r=aA a b:=⟨_,rfl⟩;simp only[<-e]at h|-;clear e f;cases i
 . exact KK
 . exact KK
def af3 (r e b)(n:af b)(a c:Nat)(h:a+c<=b.b.o.length)(d)(k:Hid (E d r e b)):
 O 121 #[I r,j a,j c] (.tuple #[.string (jf b.b.o a c),j 0]) d:=by
 have s:=k.out.V8;have f:=n.b.o;have G:decide ((a:Int)<0)=false:=bN;have H:decide ((c:Int)<0)=false:=bN;have x:decide ((b.b.o.length:Int)< (c:Int))=false:=M;have A:decide ((b.b.o.length:Int)-c< (a:Int))=false:=M;have u:∃g,(∀d,(Instr.slice 64 (.slice (some ⟨e,0,none⟩) b.b.o.length b.b.o.length) (some (.int .i64 (a:Int))) (some (.int .i64 ((a:Int)+c))) none).run prog d=.ok (.slice (some ⟨e,g,none⟩) c (b.b.o.length-a)) d)/\(c=0\/g=a):=by
  have f:∀d,(Instr.slice 64 (.slice (some ⟨e,0,none⟩) b.b.o.length b.b.o.length) (some (.int .i64 (a:Int))) (some (.int .i64 ((a:Int)+c))) none).run prog d=.ok (.slice (if b.b.o.length=a then some ⟨e,0,none⟩else some ⟨e,a,none⟩) c (b.b.o.length-a)) d:=by
   intro d;have hu:prog.underlying 64=some (.slice (prog.elem 64)):=gY;have h:=run_slice_lh (P:=prog) d 64 (some ⟨e,0,none⟩) b.b.o.length b.b.o.length hu .i64 .i64 (a:Int) ((a:Int)+c) m m m;rw[h];have w:(_root_.Go.sizeOf (prog.elem 64)).run prog d=.ok 1 d:=gY;rw[w];simp only[Result.andThen,sliced];rw[show((a:Int)).toNat=a by omega,show((a:Int)+c).toNat=a+c by omega,oH,gR,show(⟨e,0,none⟩:Addr).add a=⟨e,a,none⟩by(simp[Addr.add];intro h;exact h.symm),show a+c-a=c by omega]
  by_cases o:b.b.o.length=a
  . exact zE
  . exact zF
 obtain⟨g,v,q⟩:=u;have p:(convert 64 9 (.slice (some ⟨e,g,none⟩) c (b.b.o.length-a))).run prog d=.ok (.string (jf b.b.o a c)) d:=by
  refine tQ d 64 5 gQ oz e g c (b.b.o.length-a) _ ad (fun i t=>?_) 9 h5;rcases q with F|rfl
  . omega
  . rw[k.out.o (g+i) (by omega)];simp[List.getD,qY,List.getElem?_take,oE,t,fa (show g+i<b.b.o.length by omega)]
 obtain⟨D,hS⟩:=y (jf b.b.o a c);rw[<-hS]at p|-;clear hS q;obtain⟨C,l⟩:=y (b.b.o.length);rw[<-l]at s f h x A v p;clear l k n;exact vz
end
def et (a b i:Nat):(aI a b).testBit i=(a.testBit i&&!b.testBit i):=by
 have d:a<2^(a+i+1):=aR Nat.lt_two_pow_self (cY m m);have e:b%2^(a+i+1)<2^(a+i+1):=gc _ (lp _);rw[<-E3 a b (a+i+1) d,dd,yr e,mL];have c:i<a+i+1:=J;simp[c]
def kX (a:Nat):a/2048%4≠2↔ ¬(a.testBit 12=true/\a.testBit 11=false):=by
 rw[mM,mM];simp only[cC,mX];omega
def qt (d a:Nat)(b:Bool)(e:a.testBit 11=false)(f:a.testBit 12=false)(c:d/2048%4≠2):e1 d a b/2048%4≠2:=by
 rw[kX]at c|-;cases b<;>simp[e1,et,fF,e,f]<;>simpa using c
def x0 (c a:Nat)(d:a.testBit 11=false)(e:a.testBit 12=false)(b:c/2048%4≠2):aI c a/2048%4≠2:=by
 rw[kX]at b|-;simp[et,d,e];simpa using b
def aae (a mode:Nat)(b:a/2048%4≠2):h3 a mode/2048%4≠2:=by
 unfold h3;exact x0 _ _ R R (qt _ _ _ R R (qt _ _ _ R R b))
def To (d mode:Nat)(a:mode=0\/mode=1\/mode=3):jp d mode/2048%4≠2:=by
 unfold jp dc;refine x0 _ _ R R ?_;rw[kX];have b:Nat.testBit 6144 12=true:=cM;have c:Nat.testBit 6144 11=true:=cM;simp only[fF,dd,et,b,c];rcases a with rfl|rfl|rfl
 . simp
 . simp;decide
 . simp;decide
def VF (a:Nat)(b:a/2048%4≠2):hv a/2048%4≠2:=by
 unfold hv;exact qt _ 32 true R R (x0 _ _ R R (qt _ _ _ R R b))
def Ti (b:Nat):h2 b/2048%4≠2:=by
 unfold h2;refine qt _ 128 true R R ?_;rw[kX];have a:Nat.testBit 6144 12=true:=cM;simp[et,a]
def aai (c n:Nat)(b:c/2048%4≠2):hw c n/2048%4≠2:=by
 unfold hw dc;rw[kX]at b;have j:Nat.testBit 8257962 12=false:=cM;have k:Nat.testBit 8257962 11=false:=cM;have l:Nat.testBit 8264106 12=true:=cM;have m:Nat.testBit 8264106 11=true:=cM;split
 . rw[kX];simp[fF,dd,et,j,k];simpa using b
 . next f=>
   rw[kX];simp only[dd,l,m,rc];rintro⟨g,h⟩;apply f;refine hx fun i=>?_;rw[dd];by_cases e:i=12
   . subst e;rw[g];decide
   by_cases d:i=11
   . subst d;rw[h];decide
   have o:Nat.testBit 6144 i=false:=by
    have a:(6144:Nat)=2^12 |||2^11:=cM;rw[a,fF,tY,tY];simp;omega
   have p:Nat.testBit 4096 i=false:=by
    have a:(4096:Nat)=2^12:=cM;rw[a,tY];simp;omega
   rw[o,p];simp
def Tf (b e:Nat)(a:b/2048%4≠2):dc b e 786722/2048%4≠2:=by
 unfold dc;rw[kX]at a|-;have c:Nat.testBit 786722 12=false:=cM;have d:Nat.testBit 786722 11=false:=cM;simp[fF,dd,et,c,d];simpa using a
def xD {a b:Nat}(c:a&&&b=a)(i:Nat):a.testBit i=(a.testBit i&&b.testBit i):=by rw[<-dd,c]
def D7 {a b:Nat}(c:∀i,a.testBit i=(a.testBit i&&b.testBit i)):a&&&b=a:=hx fun i=>by rw[dd];exact(c i).symm
def tj {a b c:Nat}(d:a&&&c=a)(e:b&&&c=b):(a |||b)&&&c=a |||b:=by rw[yv,l2,yv c a,yv c b,d,e]
def lc {a:Nat}(b:Nat){c:Nat}(d:a&&&c=a):aI a b&&&c=aI a b:=by
 refine D7 fun i=>?_;have:=xD d i;rw[et];revert this;cases a.testBit i<;>cases b.testBit i<;>cases c.testBit i<;>simp
def j3 {a:Nat}(b:Nat){c:Nat}(d:a&&&c=a):(b&&&a)&&&c=b&&&a:=by rw[yw,d]
def qv {a k b:Nat}(c:Nat)(d:a&&&b=a)(e:k&&&b=k):dc a c k&&&b=dc a c k:=tj (lc _ d) (j3 _ e)
def qw {a b d:Nat}(c:Bool)(e:a&&&d=a)(f:b&&&d=b):e1 a b c&&&d=e1 a b c:=by
 cases c
 . exact lc _ e
 . exact tj e f
def sub_le {a b:Nat}(c:a&&&b=a):a<=b:=by rw[<-c];exact iQ
def aaf {a:Nat}(mode:Nat)(b:a&&&8264106=a):h3 a mode&&&8264106=h3 a mode:=lc _ (qw _ (qw _ b (by decide)) (by decide))
def Tp {a:Nat}(mode:Nat)(b:a&&&8264106=a):jp a mode&&&8264106=jp a mode:=lc _ (qv _ (qw _ b (by decide)) (by decide))
def VH {a:Nat}(b:a&&&8264106=a):hv a&&&8264106=hv a:=tj (lc _ (qw _ b (by decide))) (by decide)
def Tk {a:Nat}(b:a&&&8264106=a):h2 a&&&8264106=h2 a:=by
 have c:gM a&&&8264106=gM a:=by
  unfold gM;split
  . exact b
  . exact lc _ b
 exact tj (lc _ (qw _ c R)) R
def aaj {a:Nat}(b:Nat)(c:a&&&8264106=a):hw a b&&&8264106=hw a b:=by
 unfold hw;split
 . exact qv _ c R
 . exact j3 _ R
def word_lt (a:Int):am a<4294967296:=by unfold am;omega
def b3 {p:Prop}[Decidable p]{b c a:Nat}(d:b<a)(e:c<a):(if p then b else c)<a:=by split<;>assumption
def OJ (a b:Nat)(c:G a)(d:G b):iq a b<4294967296:=by unfold iq;exact gc _ (by decide)
def O5 (a b:Nat)(c:G a)(d:G b):nu a b<4294967296:=by unfold nu;exact word_lt _
def O1 (a b:Nat)(c:G a)(d:G b):l0 a b<4294967296:=by unfold l0;exact b3 (by decide) (by decide)
def O2 (a b:Nat)(c:G a)(d:G b):l1 a b<4294967296:=by unfold l1;exact b3 (by decide) (by decide)
def O7 (a b:Nat)(c:G a)(d:G b):kA a b<4294967296:=by unfold kA;exact yq (n:=32) c d
def OW (a b:Nat)(c:G a)(d:G b):ku a b<4294967296:=by unfold ku;exact fu a b 32 c d
def OK (a b:Nat)(c:G a)(d:G b):kp a b<4294967296:=by unfold kp;exact bL gO c
def O0 (a b:Nat)(c:G a)(d:G b):kx a b<4294967296:=by unfold kx;exact gc _ (by decide)
def O4 (a b:Nat)(c:G a)(d:G b):kz a b<4294967296:=by unfold kz;exact bL (ln _ _) c
def O3 (a b:Nat)(c:G a)(d:G b):ky a b<4294967296:=by unfold ky;exact word_lt _
def OS (a b:Nat)(c:G a)(d:G b):ks a b<4294967296:=by unfold ks;exact gc _ (by decide)
def OT (a b:Nat)(c:G a)(d:G b):nr a b<4294967296:=by unfold nr;exact word_lt _
def OU (a b:Nat)(c:G a)(d:G b):nt a b<4294967296:=by unfold nt;exact word_lt _
def OV (a b:Nat)(c:G a)(d:G b):kt a b<4294967296:=by unfold kt;exact(Nat.div_lt_iff_lt_mul (by decide)).2 (Nat.mul_lt_mul'' c d)
def OL (a b:Nat)(c:G a)(d:G b):kq a b<4294967296:=by unfold kq;exact b3 (by decide) (word_lt _)
def OM (a b:Nat)(c:G a)(d:G b):kr a b<4294967296:=by unfold kr;exact b3 (by decide) (bL (ln _ _) c)
def OY (a b:Nat)(c:G a)(d:G b):kv a b<4294967296:=by unfold kv;exact b3 c (word_lt _)
def OZ (a b:Nat)(c:G a)(d:G b):kw a b<4294967296:=by unfold kw;exact b3 c (bL (Nat.mod_le _ _) c)
def O6 (a b:Nat)(d:G a)(c:G b):pP a b<4294967296:=by unfold pP;exact c
def OQ (a b:Nat)(c:G a)(d:G b):pN a b<4294967296:=by unfold pN;exact b3 c d
def OO (a b:Nat)(c:G a)(d:G b):pL a b<4294967296:=by unfold pL;exact b3 c d
def OR (a b:Nat)(c:G a)(d:G b):pO a b<4294967296:=by unfold pO;exact b3 c d
def OP (a b:Nat)(c:G a)(d:G b):pM a b<4294967296:=by unfold pM;exact b3 c d
def sj (e:Int)(a b:Nat)(c:G a)(d:G b):cp e a b<4294967296:=by
 unfold cp;refine b3 (OJ a b c d) ?_;refine b3 (O5 a b c d) ?_;refine b3 (O1 a b c d) ?_;refine b3 (O2 a b c d) ?_;refine b3 (O7 a b c d) ?_;refine b3 (OW a b c d) ?_;refine b3 (OK a b c d) ?_;refine b3 (O0 a b c d) ?_;refine b3 (O4 a b c d) ?_;refine b3 (O3 a b c d) ?_;refine b3 (OS a b c d) ?_;refine b3 (OT a b c d) ?_;refine b3 (OU a b c d) ?_;refine b3 (OV a b c d) ?_;refine b3 (OL a b c d) ?_;refine b3 (OM a b c d) ?_;refine b3 (OY a b c d) ?_;refine b3 (OZ a b c d) ?_;refine b3 (O6 a b c d) ?_;refine b3 (OQ a b c d) ?_;refine b3 (OO a b c d) ?_;refine b3 (OR a b c d) ?_;refine b3 (OP a b c d) ?_;decide
def QE (c:P)(b:Q)(a:Nat)(d:G a):(bs c b a).1.w<4294967296/\(bs c b a).1.Yn<4294967296/\(bs c b a).1.f<=2:=by
 have e:=sB c b a d;have f:=sB (ck c b a).2 b ((a+2)%4294967296) (gc _ R);unfold bs;exact zN
def th (a:ai):K:=((((iD a.x 32 0 (ar a.V3 4)++(if a.wait=true then⟨#[119]⟩else⟨#[45]⟩))++(if a.res=0 then⟨#[45]⟩else⟨#[114]⟩))++ar a.res 5)++hp a.f 23)++k6 a.b
def Below.k {a b:D}(c:Below a.heap.size a b):Kept [] a b:=Below.kept c []
def Vz (a:P)(b:aT a):(k6 a).size<=100:=by
 have d:=b.rx;have e:=b.Wc;have c:(if a.lost=true then(⟨#[33]⟩:K)else⟨#[46]⟩).size=1:=by cases a.lost<;>rfl
 unfold k6;simp only[fm,bt,c];omega
def aeC (i g h u k:Nat)(a:ai)(n:ey a)(Q:D)(P:Hid (V Q i g h u k a)):
 aE 167 #[I i] (.string (th a)) Q:=by
 have C:=fun W=>l (mE (a.V3:Int) W);have L4:=fun W=>l (acv (a.res:Int) W);have T:=fun W (G:V W i g h u k a)=>l (adJ h g a.f n.f W (l G.WW));have U:=fun W (G:V W i g h u k a)=>l (ac4 g k a.b n.b W (l G.Wt));have y1:=bt (a.V3:Int) 4;have y4:=bt (a.res:Int) 5;have aq:=Dx a.f 23;have au:=Vz a.b n.b;obtain⟨ao,af⟩:=y (ar a.V3 4);obtain⟨aQ,ag⟩:=y (ar a.res 5);obtain⟨u5,aj⟩:=y (hp a.f 23);obtain⟨aR,ak⟩:=y (k6 a.b);unfold th;simp only[<-af,<-ag,<-aj,<-ak]at C L4 T U y1 y4 aq au|-;clear af ag aj ak n;obtain⟨e,o⟩:=y (iD a.x 32 0 ao);have a8:e.size=132:=by rw[o,s8];omega
 rw[<-o];have X:=l o;clear o;obtain⟨ap,r⟩:=y ((if a.wait=true then(⟨#[119]⟩:K)else⟨#[45]⟩));obtain⟨u3,s⟩:=y ((if a.res=0 then(⟨#[45]⟩:K)else⟨#[114]⟩));have y2:ap.size=1:=by rw[r];split<;>rfl
 have y3:u3.size=1:=by rw[s];split<;>rfl
 rw[<-r,<-s];obtain⟨aM,Z,aT,ay⟩:=bj e ap m;obtain⟨aN,aa,aU,az⟩:=bj aM u3 m;obtain⟨aO,ab,aV,aA⟩:=bj aN aQ m;obtain⟨aP,ac,aW,aB⟩:=bj aO u5 m;obtain⟨a4,ad,aX,aC⟩:=bj aP aR m;rw[<-Z,<-aa,<-ab,<-ac,<-ad];clear Z aa ab ac ad aT aU aV aW aX y2 y3 y4 aq au;have R:=l r;have S:=l s;clear r s;have c3:=P.out.c3;go_enter func167,ntmps167;go_wp2_with fail;refine(C _).out.mono ?_;rintro aG a6 ⟨rfl,J⟩;have an:=l (P.out.kept (Below.k J));have am:=l (Below.k J);clear J C c3 P;go_wp2_with fail;go_loopw [3,4] (fun aD F wr=>∃(b:Nat) (f:K),b<=32/\aD=.string f/\F=j b/\Hid (f.size=4+4*b)/\Hid (V wr i g h u k a)/\Hid (Kept [] Q wr)/\Hid (e=iD a.x (32-b) b f)) (fun _ F _=>32- (intOf F).toNat);case atStart=>exact⟨0,ao,by omega,rfl,rfl,l m,an,am,X⟩
 case round=>
  obtain⟨b,f,a3,rfl,rfl,q,c,v,p⟩:=hrel;clear X an am;by_cases aK:b<32
  . have ax:decide ((b:Int)<32)=true:=M;have aF:=c.out.XM b aK;have d2:=c.out.c2;obtain⟨d,O⟩:=y (a.x.getD b 0);have H:Hid (e=iD a.x (32- (b+1)) (b+1) (f++ar d 4)):=by
     show e=_;rw[p.out,show 32-b=(32- (b+1))+1 by omega,O];rfl
    rw[<-O]at aF;clear O p;have E:=fun W=>l (mE (d:Int) W);have av:=bt (d:Int) 4;obtain⟨aS,N⟩:=y (ar (d:Int) 4);rw[<-N]at H av;simp only[<-N]at E;clear N;obtain⟨t2,ae,aY,a2⟩:=bj f aS (by have:=q.out;omega);rw[<-ae]at H;have aL:Hid (t2.size=4+4* (b+1)):=l (by have:=q.out;omega);clear ae aY q av ay az aA aB aC;go_wp2_with fail;refine(E _).out.mono ?_;rintro aG a7 ⟨rfl,L⟩;have aI:=l (c.out.kept (Below.k L));have aJ:=l (v.out.trans (Below.k L));clear L E c v;go_wp2_with fail;go_roundw;case rel=>exact⟨b+1,t2,by omega,by first|rfl|go_num,by go_num,aL,aI,aJ,H⟩
    case measure=>exact a5
  . have ax:decide ((b:Int)<32)=false:=M;have al:Hid (e=f):=by show e=_;rw[p.out,show 32-b=0 by omega];rfl
    clear p q;have aH:=al.out;subst aH;clear al;have Y:=c.out.c4;have aZ:=c.out.c5;cases t:a.wait
    . rw[t]at Y;have A:=R.out;rw[t,z (by decide)]at A;exact LQ
    . rw[t]at Y;have A:=R.out;rw[t,B (by decide)]at A;exact LQ
namespace u
def hP (a:Nat)(i:U):List L:=
 if a=100 then c7 i.rd.toNat else if a=115 then c7 i.V1.toNat else if a=116 then c7 i.V6.toNat else if a=117 then Lib.itoa i.V1
 else if a=109 then Lib.itoa i.V2++40::(c7 i.V1.toNat++[41])else Lib.itoa i.V2
def gF :List Nat->Bool->U->List L
 |[],_,_=>[]
 |a::b,c,i=>(if c then[44,32]else[32])++(hP a i++gF b true i)
end u
structure i5 (i:U):Prop where
 d0:0<=i.rd
 d1:i.rd<32
 YT:0<=i.V1
 s1:i.V1<32
 t0:0<=i.V6
 t1:i.V6<32
 i0:-10000000000<i.V2
 YU:i.V2<10000000000
end Go.Proofs.YtmlgonbhoknoiaaGreatDoor
