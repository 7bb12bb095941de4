import Derived.Test.YtmlgonbhoknoiabGreatDoorJAM
import Derived.Test.YtmlgonbhoknoiabGreatDoorJAR
set_option maxHeartbeats 8000000
set_option maxRecDepth 100000
set_option linter.all false
namespace Go.Proofs.YtmlgonbhoknoiabGreatDoor
open Go.RowKit Go.Proofs.Tryz
theorem tU (s d i A t:Nat)(a:ai)(v:aS a.b)(n:ay a.f)(g b:Nat)(O:G g)(w:b=0\/b=1\/b=2)(h:D)(k:Hid (V h s d i A t a)):
 Calls prog 391 #[I s,j g,j b] h fun f C=>f=.returned (.tuple #[j (a2 a.b a.f g b).1.1,j (a2 a.b a.f g b).1.2])/\V C s d i A t {a with b:=(a2 a.b a.f g b).2}/\Kept [d,t] h C:=by
 have c1:=k.out.c1;have q:=l (aa3 i d a.f b h (l k.out.WW));have c:=l (abZ i d a.f (cv a.f b) h (l k.out.WW));have u:=l (ab1 i d a.f n.Wf h (l k.out.WW));have x:cv a.f b<3->cv a.f b=0\/cv a.f b=1:=by
  have R:=n.mode;have S:=n.Wl;unfold cv;repeat' split
  all_goals omega
 unfold a2;have r:hQ a.f b=(if decide (cv a.f b<3)=true then decide (2147483648<=a.f.Wf)else false):=rfl;rw[<-r]at c;cases e:hQ a.f b with
 |false=>
  rw[e]at c;rw[z (by simp)];obtain⟨K,o⟩:=y (cv a.f b);rw[<-o]at q c;clear e r x w v n u o;go_enter func391,ntmps391;go_wp2_with(first|(go_at_call 412;refine q.out.mono ?_;rintro f p ⟨rfl,rfl⟩)|(go_at_call 413;refine c.out.mono ?_;rintro f p ⟨rfl,rfl⟩));go_ret2;exact⟨rfl,k.out,Kept.refl _ _⟩
 |true=>
  rw[e]at c;rw[B rfl];have H:cv a.f b<3:=by
   rw[r]at e;by_cases E:cv a.f b<3
   . exact E
   . rw[z (by simpa using E)]at e;cases e
  have W:=l (aew s d i A t a v (a.f.Wf%4194304*4096) g b (cv a.f b) m O w (x H) h k);obtain⟨K,o⟩:=y (cv a.f b);obtain⟨P,J⟩:=y (a.f.Wf%4194304*4096);rw[<-o]at q c W|-;rw[<-J]at W u|-;obtain⟨L,F⟩:=y (fB a.b a.f P g b K);rw[<-F]at W|-;clear e r x w v n H o J F;obtain⟨⟨U,T⟩,Q⟩:=L;go_enter func391,ntmps391;go_wp2_with(first|(go_at_call 412;refine q.out.mono ?_;rintro f p ⟨rfl,rfl⟩)|(go_at_call 413;refine c.out.mono ?_;rintro f p ⟨rfl,rfl⟩)|(go_at_call 414;refine u.out.mono ?_;rintro f p ⟨rfl,rfl⟩)|(go_at_call 415;refine W.out.mono ?_;rintro f p ⟨rfl,M,N⟩));go_ret2;exact⟨rfl,M,N⟩
theorem E7 (k c t u g:Nat)(a:ai)(J:aS a.b)(U:ay a.f)(b:Nat)(P:G b)(n:D)(W:Hid (V n k c t u g a)):
 Calls prog 365 #[I k,j b] n fun h o=>h=.returned (.tuple #[j (cj a.b a.f b).1.1,j (cj a.b a.f b).1.2])/\V o k c t u g {a with b:=(cj a.b a.f b).2}/\Kept [c,g] n o:=by
 have f:Hid (Calls prog 391 #[I k,j b,j 0] n fun h o=>h=.returned (.tuple #[j (a2 a.b a.f b 0).1.1,j (a2 a.b a.f b 0).1.2])/\V o k c t u g {a with b:=(a2 a.b a.f b 0).2}/\Kept [c,g] n o):=l (tU k c t u g a J U b 0 P (.inl rfl) n W);have r:=fz J a.f b 0;have L:=(fV a.b a.f b 0 P).1;unfold cj;obtain⟨S,K⟩:=y (a2 a.b a.f b 0);rw[<-K]at f r L|-;clear K;obtain⟨⟨e,F⟩,i⟩:=S;dsimp only at f r L;unfold nN;dsimp only;by_cases x:F=0
 . subst x;rw[B rfl];cases q:aZ (e:Int) 2 i.o.length with
   |false=>
    rw[z (by simp)];have v:=l q;clear q;go_enter func365,ntmps365;go_wp2_with fail;refine f.out.mono ?_;rintro h s ⟨rfl,d,A⟩;have T:=d.V8;have p:=l (iN c g e 2 m m m m i.o.length r.o s d.Wt.V8);rw[v.out]at p;have w:=l d;clear d;go_wp2_with(go_at_call 392;refine p.out.mono ?_;rintro h Q ⟨rfl,rfl⟩);go_ret2;exact⟨rfl,w.out,A⟩
   |true=>
    rw[B rfl];have N:2147483648<=e/\e-2147483648+2<=i.o.length:=by
     have H:=q;unfold aZ at H;simp at H;omega
    have v:=l q;clear q;obtain⟨Y,C⟩:=y (cb i (e-2147483648) 2);rw[<-C];have R:=l C;clear C;go_enter func365,ntmps365;go_wp2_with fail;refine f.out.mono ?_;rintro h s ⟨rfl,d,A⟩;have T:=d.V8;have p:=l (iN c g e 2 m m m m i.o.length r.o s d.Wt.V8);rw[v.out]at p;have E:Hid (O 393 #[I c,j e,j 2] (j (cb i (e-2147483648) 2)) s):=l (yd c g i r e (e-2147483648) 2 m m m N.2 s (l d.Wt));rw[<-R.out]at E;have w:=l d;clear d N;go_wp2_with(first|(go_at_call 392;refine p.out.mono ?_;rintro h Q ⟨rfl,rfl⟩)|(go_at_call 393;refine E.out.mono ?_;rintro h Q ⟨rfl,rfl⟩));go_ret2;exact⟨rfl,w.out,A⟩
 . rw[z x];have X:((F:Int) !=0)=true:=M;clear x;go_enter func365,ntmps365;exact Jx
theorem acd (o e t A g:Nat)(a:ai)(F:aS a.b)(P:ay a.f)(d b:Nat)(L:G d)(J:b=0\/b=1\/b=2)(p:D)(Q:Hid (V p o e t A g a)):
 Calls prog 427 #[I o,j d,j b] p fun i C=>i=.returned (.tuple #[j (cS a.b a.f d b).1.1,j (cS a.b a.f d b).1.2])/\V C o e t A g {a with b:=(cS a.b a.f d b).2}/\Kept [e,g] p C:=by
 have f:=l (tU o e t A g a F P d b L J p Q);have n:=fz F a.f d b;have K:=(fV a.b a.f d b L).1;unfold cS;obtain⟨N,H⟩:=y (a2 a.b a.f d b);rw[<-H]at f n K|-;clear H J;obtain⟨⟨w,E⟩,q⟩:=N;dsimp only at f n K;unfold iO;dsimp only;by_cases u:E=0
 . subst u;rw[B rfl];cases k:aZ (w:Int) 4 q.o.length with
   |false=>
    rw[z (by simp)];have r:=l k;clear k;go_enter func427,ntmps427;go_wp2_with fail;refine f.out.mono ?_;rintro i x ⟨rfl,c,v⟩;have O:=c.V8;have h:=l (iN e g w 4 m m m m q.o.length n.o x c.Wt.V8);rw[r.out]at h;have s:=l c;clear c;go_wp2_with(go_at_call 392;refine h.out.mono ?_;rintro i R ⟨rfl,rfl⟩);go_ret2;exact⟨rfl,s.out,v⟩
   |true=>
    rw[B rfl];have r:=l k;clear k;go_enter func427,ntmps427;go_wp2_with fail;refine f.out.mono ?_;rintro i x ⟨rfl,c,v⟩;have O:=c.V8;have h:=l (iN e g w 4 m m m m q.o.length n.o x c.Wt.V8);rw[r.out]at h;have s:=l c;clear c;go_wp2_with(go_at_call 392;refine h.out.mono ?_;rintro i R ⟨rfl,rfl⟩);go_ret2;exact⟨rfl,s.out,v⟩
 . rw[z u];have S:((E:Int)==0)=false:=M;clear u;go_enter func427,ntmps427;exact Jx
theorem V.alloc {a:D}{e c d h g:Nat}{b:ai}(i:V a e c d h g b)(f:Obj):V (a.alloc f) e c d h g b:=i.more ((Kept.refl [] a).alloc f) (by simp) (by simp) (by simp) (by simp) (by simp)
theorem V.drew {a:D}{c bb fb xb rb:Nat}{b:ai}(d:V a c bb fb xb rb b):V a.drew c bb fb xb rb b:=d.more (Kept.refl [] a).drew (by simp) (by simp) (by simp) (by simp) (by simp)
structure lW (b:D)(a:Nat)(c:dG):Prop where
 V8:b.cell? ⟨a,0,none⟩=some (j c.Xd)
 c1:b.cell? ⟨a,1,none⟩=some (j c.WO)
 c2:b.cell? ⟨a,2,none⟩=some (j c.Xr)
 c3:b.cell? ⟨a,3,none⟩=some (j c.Xg)
 c4:b.cell? ⟨a,4,none⟩=some (j c.fault)
 c5:b.cell? ⟨a,5,none⟩=some (j c.XF)
 Wb:∀d,b.frozen? ⟨a,d,none⟩=false
 lt:a<b.heap.size
def k8 (a:dG):Obj:=.cells #[j a.Xd,j a.WO,j a.Xr,j a.Xg,j a.fault,j a.XF] 290
def lW.new (b:D)(a:dG):lW (b.alloc (k8 a)) b.heap.size a:=by
 unfold k8;refine⟨?_,?_,?_,?_,?_,?_,?_,?_⟩<;>simp
def lW.more {g w':D}{b:Nat}{f:dG}{F:List Nat}(a:lW g b f)(c:Kept F g w')(d:b∉F):lW w' b f:=
 ⟨(c.cell (p:=⟨b,0,none⟩) a.lt d).trans a.V8,(c.cell (p:=⟨b,1,none⟩) a.lt d).trans a.c1,(c.cell (p:=⟨b,2,none⟩) a.lt d).trans a.c2,(c.cell (p:=⟨b,3,none⟩) a.lt d).trans a.c3,(c.cell (p:=⟨b,4,none⟩) a.lt d).trans a.c4,(c.cell (p:=⟨b,5,none⟩) a.lt d).trans a.c5,fun e=>(c.frozen (p:=⟨b,e,none⟩) a.lt d).trans (a.Wb e),aQ a.lt c.size⟩
def V.other {h:D}{d b c f e:Nat}{g:ai}(a o:Nat)(p:Value)(i:V h d b c f e g)(j:d≠a)(k:b≠a)(l:c≠a)(m:f≠a)(n:e≠a):V (h.setCell ⟨a,o,none⟩ p) d b c f e g:=
 i.more (G:=[a]) ((Kept.refl _ _).setCell (.inl (by simp)) _) (by simpa using j) (by simpa using k) (by simpa using l) (by simpa using m) (by simpa using n)
def V.kept {g a:D}{e c d h f:Nat}{b:ai}(i:V g e c d h f b)(j:Kept [] g a):V a e c d h f b:=i.more j (by simp) (by simp) (by simp) (by simp) (by simp)
def adD (e c w K q:Nat)(f:ai)(s:aS f.b)(a:dG)(ah:Nat)(Z:wn a ah)(aG:ah<=4)(al:1<=a.WO)(d:D)(h:Hid (V d e c w K q f)):
 Calls prog 420 #[I e,jo a] d fun u b=>u=.returned (j (dT f.b a).1)/\V b e c w K q {f with b:=(dT f.b a).2}/\Kept [c,q] d b:=by
 obtain⟨ay,az,-,-,-,-,aA⟩:=id Z;have aH:=h.out.Wt.lt;have aI:=h.out.lt;have n:=l (h.out.alloc (k8 a)).drew;have ae:=l ((lW.new d a).more (Kept.refl [] _).drew F);have ac:Kept [c,q] d (d.alloc (k8 a)).drew:=pV;have aB:=h.out.V8;have r:=jl s a.Xd a.WO;have C:=iD s a.Xd a.WO al;have v:=fun W (U:Hid (V W e c w K q f))=>l (yc c q f.b s a.Xd a.WO m m m m W (l U.out.Wt));obtain⟨⟨v1,L⟩,x⟩:∃S,S=a9 f.b a.Xd a.WO:=⟨_,rfl⟩;have g:dT f.b a=dT f.b a:=rfl;conv at g=>rhs;unfold dT
 rw[<-x]at g r C;simp only[<-x]at v;try dsimp only at g v r C
 have ap:(256:Nat)^a.WO<=4294967296:=by
  have:(256:Nat)^a.WO<=256^4:=cV R m;exact this
 have aF:G v1:=J;have P:=l (yh a.WO m);obtain⟨p,t⟩:=y (256^a.WO);simp only[<-t]at P ap;unfold jo;unfold k8 at n ae ac;obtain⟨aj,ad,E,k,aD,aK⟩:=a;dsimp only at *;have N:¬d.heap.size∈ [c]:=M;have O:¬e∈ [c]:=LI;by_cases ab:0<k
 . have au:decide (0< (k:Int))=true:=M;have Y:=iD r E k ab;have Q:=fun W (U:Hid (V W e c w K q {f with b:=L}))=>l (yc c q L r E k m m m m W (l U.out.Wt));rw[B ab]at g;obtain⟨⟨v2,ax⟩,T⟩:∃S,S=a9 L E k:=⟨_,rfl⟩;rw[<-T]at g Y;simp only[<-T]at Q;try dsimp only at g Q Y
   rw[g];dsimp only;have ag:(256:Nat)^k*p<=4294967296:=by
    rw[t,<-oA];have am:(256:Nat)^(k+ad)<=256^4:=kj;exact am
   have an:v2*p<=4294967296:=fD (kd p m) ag;obtain⟨ar,X⟩:=y (v2*p);have ao:(v2:Int)* (p:Int)=(ar:Int):=by rw[X];simp
   rw[<-t];rw[<-X]at an|-;clear g x T t r C Y ag X s Z;go_enter func420,ntmps420;go_upto_region 1 with fail;go_region_held3 (fun b=>b.cell? ⟨e,0,none⟩=some (I c)/\b.cell? ⟨d.heap.size,0,none⟩=some (j aj)/\b.cell? ⟨d.heap.size,1,none⟩=some (j ad)) (first|go_keep|exact⟨(i.cell (p:=⟨e,0,none⟩) n.out.lt O).trans n.out.V8,o.out.V8,o.out.c1⟩) (first|(go_at_call 393;refine(v _ n).out.mono ?_;rintro u aw ⟨rfl,aa,i⟩;have o:=l (ae.out.more i N)));all_goals
    have H:=l (n.out.Xy (i.mono F) aa).drew;have av:=l (o.out.more (Kept.refl [] _).drew F);have aC:=o.out.c2;have ak:=o.out.c3;go_upto_region 3 with fail;go_region_held3 (fun b=>b.cell? ⟨e,0,none⟩=some (I c)/\b.cell? ⟨d.heap.size,2,none⟩=some (j E)/\b.cell? ⟨d.heap.size,3,none⟩=some (j k)) (first|go_keep|exact⟨(A.cell (p:=⟨e,0,none⟩) H.out.lt O).trans H.out.V8,af.out.c2,af.out.c3⟩) (first|(go_at_call 393;refine(Q _ H).out.mono ?_;rintro u aJ ⟨rfl,aq,A⟩;have af:=l (av.out.more A N)));all_goals
     have aE:=af.out.c1;go_wp2_with(go_at_call 421;refine(P.out _).mono ?_;rintro u w3 ⟨rfl,rfl⟩);go_ret;refine⟨?_,?_,?_⟩
     . first|rfl|(simp;done)|(simp[ao];done)
     . exact H.out.Xy (A.mono F) aq
     . exact((ac.trans (i.mono F)).drew).trans (A.mono F)
 . have au:decide (0< (k:Int))=false:=M;rw[z ab]at g;rw[g];dsimp only;clear g x t r C s Z P;go_enter func420,ntmps420;go_upto_region 1 with fail;go_region_held3 (fun b=>b.cell? ⟨e,0,none⟩=some (I c)/\b.cell? ⟨d.heap.size,0,none⟩=some (j aj)/\b.cell? ⟨d.heap.size,1,none⟩=some (j ad)) (first|go_keep|exact⟨(i.cell (p:=⟨e,0,none⟩) n.out.lt O).trans n.out.V8,o.out.V8,o.out.c1⟩) (first|(go_at_call 393;refine(v _ n).out.mono ?_;rintro u aw ⟨rfl,aa,i⟩;have o:=l (ae.out.more i N)));all_goals
    have ak:=o.out.c3;go_wp2_with fail;go_ret;exact⟨rfl,n.out.Xy (i.mono F) aa,ac.trans (i.mono F)⟩
def aes (d c u H k:Nat)(g:ai)(v:aS g.b)(a:dG)(aa:Nat)(Q:wn a aa)(aB:aa<=4)(aA:1<=a.WO)(n:Nat)(S:G n)(e:D)(h:Hid (V e d c u H k g)):
 Calls prog 422 #[I d,jo a,j n] e fun s b=>s=.returned (.tuple #[])/\V b d c u H k {g with b:=iG g.b a n}/\Kept [c,k] e b:=by
 obtain⟨aq,ar,-,-,-,-,au⟩:=id Q;have aE:=h.out.Wt.lt;have aG:=h.out.Wt.Ww;have aF:=h.out.lt;have f:=l (h.out.alloc (k8 a)).drew;have X:=l ((lW.new e a).more (Kept.refl [] _).drew F);have U:Kept [c,k] e (e.alloc (k8 a)).drew:=pV;have av:=h.out.V8;have x:=oq v a.Xd a.WO n S;have N:=fun W (O:Hid (V W d c u H k g))=>l (yf c k g.b v a.Xd a.WO m m m m n S W (l O.out.Wt));have o:iG g.b a n=iG g.b a n:=rfl;conv at o=>rhs;unfold iG
 obtain⟨Y,w⟩:=y (cg g.b a.Xd a.WO n);rw[<-w]at o x;simp only[<-w]at N;have aj:0< (256:Nat)^a.WO:=AT;have ak:(256:Nat)^a.WO<=4294967296:=by
  have ah:(256:Nat)^a.WO<=256^4:=kj;exact ah
 have L:=l (yh a.WO m);obtain⟨p,P⟩:=y (256^a.WO);simp only[<-P]at L aj ak o;unfold jo;unfold k8 at f X U;obtain⟨ac,ab,ad,r,az,aI⟩:=a;dsimp only at *;have K:¬e.heap.size∈ [c,k]:=M;have t:¬d∈ [c,k]:=LI;by_cases Z:0<r
 . have an:decide (0< (r:Int))=true:=M;obtain⟨E,hu⟩:=y (n/p);have al:G E:=by rw[hu];exact bJ (lq _ _) S
   have aD:(n:Int).tdiv (p:Int)=(E:Int):=by rw[hu,hA (by omega)];simp
   have aJ:=fj (E:Int) m;have aC:¬p=0:=J;have af:=fun W (O:Hid (V W d c u H k {g with b:=Y}))=>l (yf c k Y x ad r m m m m E al W (l O.out.Wt));rw[B Z,<-hu]at o;rw[o];clear o w P x v Q hu;go_enter func422,ntmps422;go_upto_region 1 with fail;go_region_held3 (fun b=>b.cell? ⟨d,0,none⟩=some (I c)/\b.cell? ⟨e.heap.size,0,none⟩=some (j ac)/\b.cell? ⟨e.heap.size,1,none⟩=some (j ab)) (first|go_keep|exact⟨(i.cell (p:=⟨d,0,none⟩) f.out.lt t).trans f.out.V8,q.out.V8,q.out.c1⟩) (first|(go_at_call 428;refine(N _ f).out.mono ?_;rintro s ap ⟨rfl,T,i⟩;have q:=l (X.out.more i K)));all_goals
    have C:=l (f.out.Xy (i.mono F) T).drew;have ao:=l (q.out.more (Kept.refl [] _).drew F);have d0:=(i.cell (p:=⟨d,0,none⟩) f.out.lt t).trans f.out.V8;obtain⟨aw,ax,ay,ag,-,-,-,-⟩:=q.out;go_upto_region 4 with(go_at_call 421;refine(L.out _).mono ?_;rintro s w3 ⟨rfl,rfl⟩);go_region_held3 (fun b=>b.cell? ⟨d,0,none⟩=some (I c)/\b.cell? ⟨e.heap.size,2,none⟩=some (j ad)/\b.cell? ⟨e.heap.size,3,none⟩=some (j r)) (first|go_keep|exact⟨(A.cell (p:=⟨d,0,none⟩) C.out.lt t).trans C.out.V8,ae.out.c2,ae.out.c3⟩) (first|(go_at_call 428;refine(af _ C).out.mono ?_;rintro s aH ⟨rfl,am,A⟩;have ae:=l (ao.out.more A K)));all_goals
     go_wp2_with fail;go_end0;exact⟨rfl,C.out.Xy A am,((U.trans i).drew).trans A⟩
 . have an:decide (0< (r:Int))=false:=M;rw[z Z]at o;rw[o];clear o w P x v Q L;go_enter func422,ntmps422;go_upto_region 1 with fail;go_region_held3 (fun b=>b.cell? ⟨d,0,none⟩=some (I c)/\b.cell? ⟨e.heap.size,0,none⟩=some (j ac)/\b.cell? ⟨e.heap.size,1,none⟩=some (j ab)) (first|go_keep|exact⟨(i.cell (p:=⟨d,0,none⟩) f.out.lt t).trans f.out.V8,q.out.V8,q.out.c1⟩) (first|(go_at_call 428;refine(N _ f).out.mono ?_;rintro s ap ⟨rfl,T,i⟩;have q:=l (X.out.more i K)));all_goals
    have ag:=q.out.c3;go_wp2_with fail;go_end0;exact⟨rfl,f.out.Xy i T,U.trans i⟩
section
attribute [local go_sem ↓] Go.wp_at_zero Go.wp_at_succ
def Kept.ZC {W d:D}(e:Kept [] W d)(b:Nat):(∀a,b<W.heap.size->d.cell? ⟨b,a,none⟩=W.cell? ⟨b,a,none⟩)/\(∀a,b<W.heap.size->d.frozen? ⟨b,a,none⟩=W.frozen? ⟨b,a,none⟩):=
 ⟨fun a c=>e.cell (p:=⟨b,a,none⟩) c (by simp),fun a c=>e.frozen (p:=⟨b,a,none⟩) c (by simp)⟩
def tJ {b a:Int}{L:Nat}(c:es b a=true):aZ b a L=false/\bD b a L=true:=by
 have d:aZ b a L=false:=by unfold es at c;unfold aZ;simp at c|-;omega
 exact⟨d,by rw[qS,c];simp⟩
def n6 {b a:Int}{L:Nat}(c:e4 b a=true):aZ b a L=false/\bD b a L=true/\es b a=false:=by
 have d:aZ b a L=false:=by unfold e4 at c;unfold aZ;simp at c|-;omega
 have e:es b a=false:=by unfold e4 at c;unfold es;simp at c|-;omega
 exact⟨d,by rw[qS,c];simp,e⟩
def DB (b:P)(c d:Int)(a:es c d=true):a9 b c d=(qW b (c-33554432),b):=by
 obtain⟨f,g⟩:=tJ (L:=b.o.length) a;unfold a9;exact JU
def Uv (b:P)(c d:Int)(a:e4 c d=true):a9 b c d=hR b (c-268435456):=by
 obtain⟨e,f,-⟩:=n6 (L:=b.o.length) a;unfold a9;rw[e,f,z (by simp),B rfl];unfold e4 at a;exact JV
def E.ZD {d:D}{a b:Nat}{c:N}{p:Addr}(e:E d a b c)(f:a≠p.block)(g:b≠p.block)(h:Value):E (d.setCell p h) a b c:=e.more (G:=[p.block]) ((Kept.refl _ _).setCell (.inl (by simp)) _) (by simpa using f) (by simpa using g)
def Kept.Xb {a:Nat}{b:List Nat}{c e:D}(f:Kept (a::b) c e)(g:Nat)(d:Value):Kept (a::b) c (e.setCell ⟨a,g,none⟩ d):=f.setCell (.inl (by simp)) d
structure sE (a b:P):Prop where
 o:b.o=a.o
 Wj:b.Wj=a.Wj
 time:b.time=a.time
 Wh:b.Wh=a.Wh
 cmp:b.cmp=a.cmp
 Wv:b.Wv=a.Wv
def E.setPort {f c e b}(i:E f c e b)(a:P)(k:sE b.b a):E (((((f.setCell ⟨c,66,none⟩ (j a.enable)).setCell ⟨c,67,none⟩ (j a.Wr)).setCell ⟨c,68,none⟩ (.bool a.lost)).setCell ⟨c,69,none⟩ (.string a.rx)).setCell ⟨c,70,none⟩ (.string a.Wc)) c e (b.V7 a):=by
 have d:b.V7 a={b with b:={b.b with enable:=a.enable,Wr:=a.Wr,lost:=a.lost,rx:=a.rx,Wc:=a.Wc}}:=by
  obtain⟨l,y,h,L,d,M⟩:=k;unfold N.V7;cases b with|mk g h U Q O T R S=>cases g with|mk n q r s t u v w x o p=>cases a with|mk z C D F G H I J K A B=>simp_all
 rw[d];exact((((i.set (X':={b with b:={b.b with enable:=a.enable}}) 66 _ rfl rfl m).set (X':={b with b:={b.b with enable:=a.enable,Wr:=a.Wr}}) 67 _ rfl rfl m).set (X':={b with b:={b.b with enable:=a.enable,Wr:=a.Wr,lost:=a.lost}}) 68 _ rfl rfl m).set (X':={b with b:={b.b with enable:=a.enable,Wr:=a.Wr,lost:=a.lost,rx:=a.rx}}) 69 _ rfl rfl m).set 70 _ rfl rfl m
structure Bk (a b:P):Prop where
 o:b.o=a.o
 enable:b.enable=a.enable
 Wr:b.Wr=a.Wr
 lost:b.lost=a.lost
 rx:b.rx=a.rx
 Wc:b.Wc=a.Wc
def E.ZE {f c e b}(i:E f c e b)(a:P)(k:Bk b.b a):E (((((f.setCell ⟨c,61,none⟩ (j a.Wj)).setCell ⟨c,62,none⟩ (j a.time)).setCell ⟨c,63,none⟩ (j a.Wh)).setCell ⟨c,64,none⟩ (j a.cmp)).setCell ⟨c,65,none⟩ (j a.Wv)) c e (b.V7 a):=by
 have d:b.V7 a={b with b:={b.b with Wj:=a.Wj,time:=a.time,Wh:=a.Wh,cmp:=a.cmp,Wv:=a.Wv}}:=by
  obtain⟨l,y,h,L,d,M⟩:=k;unfold N.V7;cases b with|mk g h U Q O T R S=>cases g with|mk n q r s t u v w x o p=>cases a with|mk z C D F G H I J K A B=>simp_all
 rw[d];exact((((i.set (X':={b with b:={b.b with Wj:=a.Wj}}) 61 _ rfl rfl m).set (X':={b with b:={b.b with Wj:=a.Wj,time:=a.time}}) 62 _ rfl rfl m).set (X':={b with b:={b.b with Wj:=a.Wj,time:=a.time,Wh:=a.Wh}}) 63 _ rfl rfl m).set (X':={b with b:={b.b with Wj:=a.Wj,time:=a.time,Wh:=a.Wh,cmp:=a.cmp}}) 64 _ rfl rfl m).set 65 _ rfl rfl m
def e3 (b a:Nat):Value:=.agg #[j b,j a]
def FQ (a b:Nat)(c:D):
 aE 269 #[I a,e3 b 0] (j 0) c:=by
 unfold e3;go_enter func269,ntmps269;exact JW
def ahL (h p:Nat)(e:N)(a c:Nat)(x:a<17184063488)(w:1<=c)(i:es a c=true)(k)(d:Hid (E k h p e)):
 aE 269 #[I h,e3 a c] (j (a9 e.b a c).1) k:=by
 have v:=d.out.lt;have q:=d.out.Yw;have r:=d.out.XP;have s:=d.out.XQ;have t:=d.out.Yx;have u:=d.out.Yy;rw[DB e.b a c i];have n:Hid (∀W,O 340 #[j a,j c] (.bool true) W):=GU;have wr:IntKind.i64.wrap ((a:Int)-33554432)=(a:Int)-33554432:=dE;have f:=fun W=>l (aiq e.b ((a:Int)-33554432) W);obtain⟨A,g⟩:=y (qW e.b ((a:Int)-33554432));simp only[<-g]at f|-;have z:((c:Int)==0)=false:=M;unfold ed at f;clear g i d;unfold e3;go_enter func269,ntmps269;go_upto_region 4 with(go_at_call 340;refine(n.out _).mono ?_;rintro o C ⟨rfl,rfl⟩);go_region_with(go_at_call 341;refine(f _).out.mono ?_;rintro o B ⟨rfl,b⟩);all_goals
  go_wp2_with fail;go_ret;refine⟨rfl,?_⟩;exact io
def ahJ (f p:Nat)(d:N)(x:d.b.enable<8)(a c:Nat)(T:a<17184063488)(R:1<=c)(g:e4 a c=true)(n)(b:Hid (E n f p d)):
 an 269 #[I f,e3 a c] (j (a9 d.b a c).1) [f] f p (d.V7 (a9 d.b a c).2) n:=by
 have P:=b.out.lt;have B:=b.out.XR;have C:=b.out.XS;have D:=b.out.XT;have G:=b.out.XK;have H:=b.out.XL;have U:=b.out.Ww;have o:=(n6 (L:=0) g).2.2;rw[Uv d.b a c g];have w:Hid (∀W,O 340 #[j a,j c] (.bool false) W):=GV;have u:Hid (∀W,O 342 #[j a,j c] (.bool true) W):=GW;have wr:IntKind.i64.wrap ((a:Int)-268435456)=(a:Int)-268435456:=dE;have i:=fun W=>l (ag3 d.b x ((a:Int)-268435456) W);have k:sE d.b (hR d.b ((a:Int)-268435456)).2:=by
  unfold hR;repeat' split
  all_goals exact⟨rfl,rfl,rfl,rfl,rfl,rfl⟩
 obtain⟨v,q⟩:=y (hR d.b ((a:Int)-268435456));simp only[<-q]at i k|-;obtain⟨Y,s⟩:=v;dsimp only at i k|-;have X:((c:Int)==0)=false:=M;unfold bw at i;have t:=l k;clear q g o k;unfold e3;go_enter func269,ntmps269;go_upto_region 6 with(first|(go_at_call 340;refine(w.out _).mono ?_;rintro r A ⟨rfl,rfl⟩)|(go_at_call 342;refine(u.out _).mono ?_;rintro r A ⟨rfl,rfl⟩));go_region_with(go_at_call 343;refine(i _).out.mono ?_;rintro r z ⟨rfl,h⟩;obtain⟨V,K⟩:=h.ZC (n.heap.size+1));all_goals
  have e:E z f p d:=zk;have d66:=e.XR;have d67:=e.XS;have d68:=e.XT;have d69:=e.XK;have d70:=e.XL;have L:=e.Wb;have Q:=e.lt;have S:¬f=n.heap.size+1:=J;go_wp2_with fail;go_ret;refine⟨rfl,?_,?_⟩
  . repeat(first|(with_reducible exact e)|(with_reducible refine E.alloc ?_ _)|(with_reducible refine E.drew ?_)|(with_reducible refine E.setPort ?_ s t.out)|(with_reducible refine E.ZD ?_ aL aL _))
  . exact Al
theorem ahK (g h:Nat)(d:N)(C:d.b.o.length<=65536)(b c:Nat)(G:b<17184063488)(x:1<=c)(z:c<=4)(f:aZ b c d.b.o.length=true)(i)(a:Hid (E i g h d)):
 aE 269 #[I g,e3 b c] (j (a9 d.b b c).1) i:=by
 have F:=a.out.lt;have k:es b c=false:=by
  cases e:es b c with
  |false=>rfl
  |true=>rw[(tJ (L:=d.b.o.length) e).1]at f;cases f
 have n:e4 b c=false:=by
  cases e:e4 b c with
  |false=>rfl
  |true=>rw[(n6 (L:=d.b.o.length) e).1]at f;cases f
 have q:a9 d.b b c=(cb d.b (((b:Int)-2147483648).toNat) c,d.b):=by unfold a9;rw[B f];simp
 rw[q];have A:2147483648<=b/\b-2147483648+c<=d.b.o.length:=by
  have e:=f;unfold aZ at e;simp at e;omega
 obtain⟨p,r⟩:=y (((b:Int)-2147483648).toNat);rw[<-r];have w:Hid (∀W,O 340 #[j b,j c] (.bool false) W):=GX;have v:Hid (∀W,O 342 #[j b,j c] (.bool false) W):=GY;have o:=l (fun W e=>ug g h d C b p c m x z m W e);have D:Hid (E (i.alloc (.cells #[j b,j c] 231)) g h d):=b6;obtain⟨J,s⟩:=y (cb d.b p c);simp only[<-s]at o|-;have H:((c:Int)==0)=false:=M;clear s k n r A q f;unfold e3;go_enter func269,ntmps269;go_wp2_with(first|(go_at_call 340;refine(w.out _).mono ?_;rintro t u ⟨rfl,rfl⟩)|(go_at_call 342;refine(v.out _).mono ?_;rintro t u ⟨rfl,rfl⟩)|(go_at_call 262;refine(o.out _ D).mono ?_;rintro t u ⟨rfl,rfl⟩));exact vO
theorem ox (e f:Nat)(a:N)(p:aS a.b)(c b:Nat)(m:c<17184063488)(l:1<=b)(s:b<=4)(n:bD c b a.b.o.length=true)(h)(g:Hid (E h e f a)):
 an 269 #[I e,e3 c b] (j (a9 a.b c b).1) [e,f] e f (a.V7 (a9 a.b c b).2) h:=by
 rw[qS]at n;cases k:aZ c b a.b.o.length with
 |true=>
  have i:(a9 a.b c b).2=a.b:=by unfold a9;rw[B k]
  rw[i];refine(ahK e f a p.o c b m l s k h g).mono ?_;rintro q r ⟨rfl,d⟩;exact⟨rfl,g.out.kept d,d.mono F⟩
 |false=>
  cases o:es c b with
  |true=>
   have i:(a9 a.b c b).2=a.b:=by rw[DB a.b c b o]
   rw[i];refine(ahL e f a c b m l o h g).mono ?_;rintro q r ⟨rfl,d⟩;exact⟨rfl,g.out.kept d,d.mono F⟩
  |false=>
   rw[k,o]at n;refine(ahJ e f a p.enable c b m l (by simpa using n) h g).mono ?_;rintro q r ⟨rfl,t,d⟩;exact⟨rfl,t,d.mono F⟩
structure ey (a:ai):Prop where
 b:aS a.b
 f:ay a.f
 soft:a.f.soft<=546
 x:a.x.length=32
 WE:∀i,a.x.getD i 0<4294967296
 V3:a.V3<4294967296
 res:a.res<17184063488
def V.XM {d:D}{h f g e i:Nat}{b:ai}(c:V d h f g e i b)(a:Nat)(k:a<32):d.cell? ⟨e,a,none⟩=some (j (b.x.getD a 0)):=by
 have l:=c.XD;rw[c.cq a (by omega)];simp[rq,fa (show a<b.x.length by omega)]
def gJ (a:ai)(i:ak):Nat:=am ((a.x.getD i.V1 0:Int)+i.V2)
def s9 (b:Nat)(c:Bool)(a:Nat):Int:=if(c&&decide (256^b/2<=a))=true then(a:Int)- ((256^b:Nat):Int)else a
def xe (b:ai)(i:ak)(c:Nat)(d:Bool)(a:dG×P):(Int×Int×Int)×ai:=
 if a.1.fault=0 then((am ((b.V3:Int)+i.V4),-1,0),dV {b with b:=(dT a.2 a.1).2} i.rd (s9 c d (dT a.2 a.1).1))else((0,l4 a.1.fault 1,a.1.XF),{b with b:=a.2})
def iw (a:ai)(i:ak)(b:Nat)(c:Bool):(Int×Int×Int)×ai:=xe a i b c (a1 a.b a.f (gJ a i) b 1)
def xY (b:ai)(i:ak)(a:dG×P):(Int×Int×Int)×ai:=
 if a.1.fault=0 then((am ((b.V3:Int)+i.V4),-1,0),{b with b:=iG a.2 a.1 (b.x.getD i.V6 0)})else((0,l4 a.1.fault 2,a.1.XF),{b with b:=a.2})
def iH (a:ai)(i:ak)(b:Nat):(Int×Int×Int)×ai:=xY a i (a1 a.b a.f (gJ a i) b 2)
def cx (a:Int×Int×Int):Value:=gB a.1 a.2.1 a.2.2
def xQ (a:ai)(b:Nat)(c:Int):(dV a b c).V3=a.V3:=by unfold dV;split<;>rfl
structure bf (b:D)(a:Nat)(e:List Value):Prop where
 cell:∀c d,e[c]?=some d->b.cell? ⟨a,c,none⟩=some d
 Wb:∀f,b.frozen? ⟨a,f,none⟩=false
 lt:a<b.heap.size
def bf.more {h w':D}{a:Nat}{d:List Value}{F:List Nat}(b:bf h a d)(c:Kept F h w')(e:¬a∈F):bf w' a d:=⟨fun f j i=>(c.cell (p:=⟨a,f,none⟩) b.lt e).trans (b.cell f j i),fun g=>(c.frozen (p:=⟨a,g,none⟩) b.lt e).trans (b.Wb g),aQ b.lt c.size⟩
def bf.kept {d a:D}{b:Nat}{c:List Value}(e:bf d b c)(f:Kept [] d a):bf a b c:=e.more f (by simp)
theorem bf.drew {a:D}{b:Nat}{c:List Value}(d:bf a b c):bf a.drew b c:=d.kept (Kept.refl [] a).drew
theorem bf.alloc {a:D}{b:Nat}{c:List Value}(e:bf a b c)(d:Obj):bf (a.alloc d) b c:=e.kept ((Kept.refl [] a).alloc d)
def bf.new (b:D)(a:List Value)(c:Nat):bf (b.alloc (.cells a.toArray c)) b.heap.size a:=⟨fun e g d=>by simp[d],fun f=>by simp,by simp⟩
def bf.Yo (b:D)(e:Obj)(a:List Value)(c:Nat):bf ((b.alloc e).alloc (.cells a.toArray c)) (b.heap.size+1) a:=⟨fun f h d=>by rw[fJ _ _ _ _ _ (by simp)];simpa using d,fun g=>by rw[fo _ _ _ _ _ (by simp)],by simp⟩
def nD (a:ai)(i:ak):Nat:=if i.op<=63 then a.x.getD i.V1 0 else i.V1
def kJ (a:ai)(i:ak):Nat:=if i.op=62\/i.op=65 then gs a.f a.b i.V2 |||nD a i else if i.op=63\/i.op=66 then aI (gs a.f a.b i.V2) (nD a i)else nD a i
def iu (a:ai)(i:ak)(b:Nat):(Int×Int×Int)×ai:=
 if nY a.f i.V2.toNat (cT i)=true then((am ((a.V3:Int)+i.V4),-1,0),dV {a with f:=if cT i=true then ce a.f i.V2 (kJ a i)else a.f} i.rd (bB a.f a.b i.V2))else((0,2,b),a)
def kW (a:N)(i:ak)(b p:Nat):N:={a5 a i.rd (cb a.b p 4)with W9:=true,WU:=b}
def hT (a:N)(b:Nat):Bool:=!a.W9 ||!decide (a.WU=b)
def hU (a:N)(i:ak)(b p:Nat):N:=hq (a5 (bif hT a b then a else bY a (bt a.b.o p 4 (a.x.getD i.V6 0))) i.rd (hT a b).toNat)
def kG (X:N)(i:ak)(p:Nat):N:=a5 (bY X (bt X.b.o p 4 (co i.op (cb X.b p 4) (X.x.getD i.V6 0)))) i.rd (cb X.b p 4)
def Ds (a:P)(p:Nat):cb a p 4<4294967296:=tq a p 4
def Ph (c:Int)(a b:Nat)(d:G a)(e:G b)(g:52<=c)(h:c<=60):co c a b<4294967296:=by
 have f:c=52\/c=53\/c=54\/c=55\/c=56\/c=57\/c=58\/c=59\/c=60:=J;rcases f with rfl|rfl|rfl|rfl|rfl|rfl|rfl|rfl|rfl
 . exact e
 . show(a+b)%4294967296<_;omega
 . exact yM (n:=32) d e
 . exact bJ gN d
 . exact ft a b 32 d e
 . show(if aX a<aX b then a else b)<_;split<;>assumption
 . show(if aX b<aX a then a else b)<_;split<;>assumption
 . show(if a<b then a else b)<_;split<;>assumption
 . show(if b<a then a else b)<_;split<;>assumption
def agv (d f c)(k:af c)(i:ak)(v:aT i)(g p:Nat)(x:g=2147483648+p)(n:p+4<=c.b.o.length)(r)(a:Hid (E r d f c)):
 an 275 #[I d,ag i,j g] (.tuple #[]) [d,f] d f (kW c i g p) r:=by
 have C:=a.out.lt;have o:=k.b.o;have q:Hid (E (r.alloc (az i)) d f c):=b6;unfold az at q;have s:Hid (∀W,Hid (E W d f c)->O 262 #[I d,j g,j 4] (j (cb c.b p 4)) W):=Ho;have u:=l (fun W h=>fY d f c k.x i.rd (cb c.b p 4) v.rd W h);have t:=l (fun W h=>ahY d f (a5 c i.rd (cb c.b p 4)) g W h);unfold kW;obtain⟨M,w⟩:=y (cb c.b p 4);simp only[<-w]at s u t|-;unfold ag;obtain⟨H,J,K,L,D,G⟩:=i;dsimp only at *;clear a k v w x n o;go_enter func275,ntmps275;go_wp2_with fail;refine(s.out _ q).mono ?_;rintro A B ⟨rfl,rfl⟩;go_wp2_with fail;refine(u.out _ q).mono ?_;rintro A B ⟨rfl,z,b⟩;go_wp2_with fail;refine(t.out _ (l z)).mono ?_;exact Aw
def agI (d f c)(t:af c)(i:ak)(A:aT i)(g p:Nat)(P:g=2147483648+p)(n:p+4<=c.b.o.length)(k:52<=i.op/\i.op<=60)(v)(a:Hid (E v d f c)):
 an 277 #[I d,ag i,j g] (.tuple #[]) [d,f] d f (kG c i p) v:=by
 have aa:=a.out.lt;have ab:=a.out.Ww;have o:=t.b.o;have u:Hid (E (v.alloc (az i)) d f c):=b6;unfold az at u;have z:=t.WE i.V6;have B:=Ds c.b p;have J:=Ph i.op _ _ B z k.1 k.2;have G:Hid (∀W,Hid (E W d f c)->O 262 #[I d,j g,j 4] (j (cb c.b p 4)) W):=Ho;have D:=l (fun W h=>bU d f c i.V6 A.V6 W h);have x:=l (agH i.op k.1 k.2 _ _ B z);have q:Hid (∀W,Hid (E W d f c)->an 346 #[I d,j g,j 4,j (co i.op (cb c.b p 4) (c.x.getD i.V6 0))] (.tuple #[]) [f] d f (bY c (bt c.b.o p 4 (co i.op (cb c.b p 4) (c.x.getD i.V6 0)))) W):=l (fun W h=>uh d f c o g p 4 m m m n _ J W h);have s:=l (fun W h=>fY d f (bY c (bt c.b.o p 4 (co i.op (cb c.b p 4) (c.x.getD i.V6 0)))) t.x i.rd (cb c.b p 4) A.rd W h);unfold kG;obtain⟨Y,M⟩:=y (cb c.b p 4);obtain⟨N,K⟩:=y (c.x.getD i.V6 0);simp only[<-M,<-K]at G D x q s|-;obtain⟨r,L⟩:=y (co i.op Y N);simp only[<-L]at x q s|-;obtain⟨Z,H⟩:=y (bY c (bt c.b.o p 4 r));simp only[<-H]at q s|-;unfold ag;obtain⟨T,U,V,X,R,S⟩:=i;dsimp only at *;clear a t A M P n o L H K z B J k;go_enter func277,ntmps277;go_wp2_with(first|(go_at_call 262;refine(G.out _ u).mono ?_;rintro C w ⟨rfl,rfl⟩)|(go_at_call 39;refine(D.out _ u).mono ?_;rintro C w ⟨rfl,rfl⟩)|(go_at_call 349;refine(x.out _).mono ?_;rintro C w ⟨rfl,rfl⟩));refine(q.out _ u).mono ?_;rintro C w ⟨rfl,Q,b⟩;obtain⟨ac,ad,ae,ah,ai,aj,al,ar,au,am,av,ao,aw,ap,ax,aq⟩:a7 w v.heap.size T U V X R S:=i1;go_wp2_with fail;refine(s.out _ (l Q)).mono ?_;exact Aw
def ah8 (d f c)(o:af c)(i:ak)(s:aT i)(g p:Nat)(Q:g=2147483648+p)(x:p+4<=c.b.o.length)(n:hT c g=true)(t)(a:Hid (E t d f c)):
 an 276 #[I d,ag i,j g] (.tuple #[]) [d,f] d f (hU c i g p) t:=by
 have U:=a.out.lt;have z:=o.b.o;have K:Hid (E (t.alloc (az i)) d f c):=b6;unfold az at K;have w:=o.WE i.V6;have M:=a.out.XJ;have N:=a.out.XC;have L:=l (fun W k=>bU d f c i.V6 s.V6 W k);have u:Hid (∀W,Hid (E W d f c)->an 346 #[I d,j g,j 4,j (c.x.getD i.V6 0)] (.tuple #[]) [f] d f (bY c (bt c.b.o p 4 (c.x.getD i.V6 0))) W):=Hp;unfold hU;rw[n];obtain⟨h,q⟩:=y ((bif true then c else bY c (bt c.b.o p 4 (c.x.getD i.V6 0))));have v:h.x.length=32:=by rw[q];exact o.x
 rw[<-q];rw[show(bY c (bt c.b.o p 4 (c.x.getD i.V6 0)))=bY c (bt c.b.o p 4 (c.x.getD i.V6 0))from rfl]at u;have H:Hid (∀W,Hid (E W d f h)->an 197 #[I d,j i.rd,j ((true:Bool).toNat:Nat)] (.tuple #[]) [d] d f (a5 h i.rd (true:Bool).toNat) W):=l (fun W k=>fY d f h v i.rd (true:Bool).toNat s.rd W k);have J:=l (fun W k=>rc d f (a5 h i.rd (true:Bool).toNat) W k);have G:Hid (∀W,O 255 #[.bool true] (j ((true:Bool).toNat:Nat)) W):=l (fun W=>mH true W);obtain⟨S,A⟩:=y (c.x.getD i.V6 0);simp only[<-A]at L u;obtain⟨T,B⟩:=y ((true:Bool).toNat);simp only[<-B]at H J G|-;unfold ag;obtain⟨Y,aa,ab,ac,V,X⟩:=i;dsimp only at *;have r:(!c.W9 ||((c.WU:Int) !=g))=true:=Hq;obtain⟨R,C⟩:=y (c.W9);obtain⟨ah,D⟩:=y (c.WU);rw[<-C]at M r;rw[<-D]at N r;have P:h=c:=q;subst P;clear q;clear a o s Q x z A w n v B C D;cases R;case false=>
  exact Kx
 case true=>
  have Z:((ah:Int) !=g)=true:=by simpa using r
  exact Kx
def ah9 (d f c)(s:af c)(i:ak)(B:aT i)(g p:Nat)(U:g=2147483648+p)(x:p+4<=c.b.o.length)(n:hT c g=false)(v)(a:Hid (E v d f c)):
 an 276 #[I d,ag i,j g] (.tuple #[]) [d,f] d f (hU c i g p) v:=by
 have am:=a.out.lt;have ao:=a.out.Ww;have z:=s.b.o;have C:Hid (E (v.alloc (az i)) d f c):=b6;unfold az at C;have w:=s.WE i.V6;have S:=a.out.XJ;have T:=a.out.XC;have D:=l (fun W o=>bU d f c i.V6 B.V6 W o);have r:Hid (∀W,Hid (E W d f c)->an 346 #[I d,j g,j 4,j (c.x.getD i.V6 0)] (.tuple #[]) [f] d f (bY c (bt c.b.o p 4 (c.x.getD i.V6 0))) W):=Hp;unfold hU;rw[n];obtain⟨k,t⟩:=y ((bif false then c else bY c (bt c.b.o p 4 (c.x.getD i.V6 0))));have L:k.x.length=32:=by rw[t];exact s.x
 rw[<-t];rw[show(bY c (bt c.b.o p 4 (c.x.getD i.V6 0)))=(bif false then c else bY c (bt c.b.o p 4 (c.x.getD i.V6 0)))from rfl]at r;have H:Hid (∀W,Hid (E W d f k)->an 197 #[I d,j i.rd,j ((false:Bool).toNat:Nat)] (.tuple #[]) [d] d f (a5 k i.rd (false:Bool).toNat) W):=l (fun W o=>fY d f k L i.rd (false:Bool).toNat B.rd W o);have J:=l (fun W o=>rc d f (a5 k i.rd (false:Bool).toNat) W o);have G:Hid (∀W,O 255 #[.bool false] (j ((false:Bool).toNat:Nat)) W):=l (fun W=>mH false W);obtain⟨R,A⟩:=y (c.x.getD i.V6 0);simp only[<-A]at D r;obtain⟨al,M⟩:=y ((false:Bool).toNat);simp only[<-M]at H J G|-;unfold ag;obtain⟨ab,ac,ae,ai,Z,aa⟩:=i;dsimp only at *;have q:(!c.W9 ||((c.WU:Int) !=g))=false:=Hq;obtain⟨ad,N⟩:=y (c.W9);obtain⟨ah,P⟩:=y (c.WU);rw[<-N]at S q;rw[<-P]at T q;have K:(bif false then c else bY c (bt c.b.o p 4 R))=k:=by rw[t,A]
 simp only[K]at r;clear t K;clear a s B U x z A w n L M N P;cases ad;case false=>
  simp at q
 case true=>
  have aI:((ah:Int) !=g)=false:=by simpa using q
  clear q;go_enter func276,ntmps276;go_wp2_with(go_at_call 39;refine(D.out _ C).mono ?_;rintro u Q ⟨rfl,rfl⟩);refine(r.out _ C).mono ?_;rintro u Q ⟨rfl,V,b⟩;obtain⟨ap,aq,ar,au,av,aw,ax,aD,aE,ay,aF,aA,aG,aB,aH,aC⟩:a7 Q v.heap.size ab ac ae ai Z aa:=i1;go_upto_region 5 with fail;go_region_with(first|(go_at_call 255;refine(G.out _).mono ?_;rintro u aj ⟨rfl,rfl⟩)|(go_at_call 197;refine(H.out _ (l V.drew)).mono ?_;rintro u aj ⟨rfl,X,e⟩));all_goals
   go_wp2_with fail;refine(J.out _ (l X)).mono ?_;rintro u w3 ⟨rfl,Y,h⟩;go_wp2_with fail;go_end0;refine⟨rfl,Y,?_⟩;exact sq
def b8 (a:N)(b:Nat):Nat×Nat:=if b%32=0 then(a.c.Wy,a.c.WN)else if b%32=1 then(a.b.time,a.b.Wh)else if b%32=2 then(a.c.ret,a.c.We)else(0,0)
def bF (b:N)(a:Nat):Nat×Bool:=
 if 32<=a%256- (if 128<=a%256 then 128 else 0)then(0,false)else if a%32=1/\a<3072 then(0,false)else if 128<=a%256 then((b8 b a).2,true)else((b8 b a).1,true)
def ahh (m t:Nat)(k:N)(a:Nat)(H:2816<=a)(K:a<=3327)(o)(d:Hid (E o m t k)):
 aE 306 #[I m,j a] (.tuple #[j ((bF k a).1:Nat),.bool (bF k a).2]) o:=by
 have O:=d.out.lt;have u:¬m=o.heap.size:=J;have v:=d.out.Yb;have w:=d.out.Yc;have x:=d.out.XG;have A:=d.out.XH;have C:=d.out.XP;have D:=d.out.XQ;obtain⟨r,q⟩:=y (a%256);obtain⟨b,p⟩:=y (a%32);have G:(a:Int)%256=(r:Int):=J;have F:(a:Int)%32=(b:Int):=J;have L:b<32:=J;unfold bF b8;rw[<-q,<-p];clear q p d;by_cases c:128<=r
 . have s:decide ((128:Int)<=r)=true:=M;rw[B c];by_cases e:32<=r-128
   . rw[B e];have n:decide ((32:Int)<=(r:Int)-128)=true:=M;exact KA
   . rw[z e];have n:decide ((32:Int)<=(r:Int)-128)=false:=M;clear e;by_cases f:b=0
     . subst f;rw[z (by omega),B c,B rfl];exact pS
     by_cases g:b=1
     . subst g;by_cases i:a<3072
       . exact KC
       . rw[z (fun l=>i l.2),B c,z (by omega),B rfl];exact KD
     by_cases h:b=2
     . subst h;rw[z (by omega),B c,z (by omega),z (by omega),B rfl];exact pS
     rw[z (by omega),B c,z f,z g,z h];exact KB
 . have s:decide ((128:Int)<=r)=false:=M;rw[z c];by_cases e:32<=r-0
   . rw[B e];have n:decide ((32:Int)<=(r:Int))=true:=M;exact KA
   . rw[z e];have n:decide ((32:Int)<=(r:Int))=false:=M;clear e;by_cases f:b=0
     . subst f;rw[z (by omega),z c,B rfl];exact pS
     by_cases g:b=1
     . subst g;by_cases i:a<3072
       . exact KC
       . rw[z (fun l=>i l.2),z c,z (by omega),B rfl];exact KD
     by_cases h:b=2
     . subst h;rw[z (by omega),z c,z (by omega),z (by omega),B rfl];exact pS
     rw[z (by omega),z c,z f,z g,z h];exact KB
def aA (b:N)(a:Int):Nat×Bool:=
 if 256<=a/\a<=511 then bO b a else if 768<=a/\a<=1023 then bM b a else if 2816<=a/\a<=3327 then bF b a.toNat else(0,decide (3857<=a/\a<=3860))
theorem j7 (c p b)(t:af b)(a:Int)(d)(o:Hid (E d c p b)):
 aE 217 #[I c,j a] (.tuple #[j ((aA b a).1:Nat),.bool (aA b a).2]) d:=by
 have r:=l (ahx c p b t a d o);have q:=l (ahi c p b t a d o);have g:Hid (2816<=a/\a<=3327->aE 306 #[I c,j a] (.tuple #[j ((bF b a.toNat).1:Nat),.bool (bF b a.toNat).2]) d):=l (fun O=>by
  have:=ahh c p b a.toNat m m d o;rw[show((a.toNat:Nat):Int)=a by omega]at this;exact this)
 unfold aA;obtain⟨⟨S,R⟩,hS⟩:∃f,f=bO b a:=⟨_,rfl⟩;obtain⟨⟨Q,P⟩,w⟩:∃f,f=bM b a:=⟨_,rfl⟩;obtain⟨⟨N,L⟩,v⟩:∃f,f=bF b a.toNat:=⟨_,rfl⟩;rw[<-hS]at r|-;rw[<-w]at q|-;simp only[<-v]at g|-;clear hS w v t o;by_cases e:256<=a/\a<=511
 . rw[B e];obtain⟨h,i⟩:=e;have A:decide (256<=a)=true:=by simp[h]
   have C:decide (a<=511)=true:=by simp[i]
   go_enter func217,ntmps217;go_wp2_with(go_at_call 304;refine r.out.mono ?_;rintro x D ⟨rfl,u⟩);exact AA
 rw[z e];by_cases k:768<=a/\a<=1023
 . rw[B k];obtain⟨h,i⟩:=k;have A:decide (256<=a)=true:=M;have C:decide (a<=511)=false:=M;have H:decide (768<=a)=true:=by simp[h]
   have J:decide (a<=1023)=true:=by simp[i]
   clear e;go_enter func217,ntmps217;go_wp2_with(go_at_call 305;refine q.out.mono ?_;rintro x D ⟨rfl,u⟩);exact AA
 rw[z k];by_cases n:2816<=a/\a<=3327
 . rw[B n];have G:=l (g.out n);obtain⟨h,i⟩:=n;have A:decide (256<=a)=true:=M;have C:decide (a<=511)=false:=M;have H:decide (768<=a)=true:=M;have J:decide (a<=1023)=false:=M;clear e k g;go_enter func217,ntmps217;go_wp2_with(go_at_call 306;refine G.out.mono ?_;rintro x D ⟨rfl,u⟩);exact AA
 rw[z n];obtain⟨K,s⟩:=y (decide (3857<=a/\a<=3860));dsimp only;rw[<-s];have F:=l s;clear r q g s;go_enter func217,ntmps217;go_wp2_with fail;all_goals first
  | (exfalso;omega)
  | (go_ret2;refine⟨?_,Kept.refl _ _⟩;rw[F.out];simp_all<;>try first|omega|(rw[dY];simp;omega))
def afi (a:Nat)(b:D):
 O 61 #[I a] (.tuple #[]) b:=by
 go_enter func61,ntmps61;exact sr
def afs (a f:Nat)(d:N)(i:Int)(b:i<0\/32<=i)(c)(g:Hid (E c a f d)):
 O 25 #[I a,j i] (.tuple #[j 0,j 2]) c:=by
 rcases b with b|b
 . have e:decide (i<0)=true:=gZ;exact K3
 . have e:decide (i<0)=false:=M;have h:decide (i>=32)=true:=M;exact K3
def afr (b e:Nat)(a:N)(i:Nat)(d:i<32)(c)(g:Hid (E c b e a)):
 O 25 #[I b,j i] (.tuple #[j (a.x.getD i 0:Nat),j 0]) c:=by
 have f:=l (bU b e a i d c g);have k:decide ((i:Int)<0)=false:=bL;have m:decide ((i:Int)>=32)=false:=M;clear d;go_enter func25,ntmps25;go_wp2_with(go_at_call 39;refine f.out.mono ?_;rintro h n ⟨rfl,rfl⟩);exact su
def j9 (a:N)(b:Int):Nat×Int:=if(aA a b).2=true then((aA a b).1,0)else(0,2)
def afe (c g a)(f:af a)(b:Int)(d)(k:Hid (E d c g a)):
 aE 144 #[I c,j b] (.tuple #[j ((j9 a b).1:Nat),j (j9 a b).2]) d:=by
 have h:=l (j7 c g a f b d k);unfold j9;obtain⟨⟨m,i⟩,e⟩:∃r,r=aA a b:=⟨_,rfl⟩;simp only[<-e]at h|-;clear e f;cases i
 . exact K4
 . exact K4
def afp (r e b)(n:af b)(a c:Nat)(h:a+c<=b.b.o.length)(d)(k:Hid (E d r e b)):
 O 111 #[I r,j a,j c] (.tuple #[.string (ji b.b.o a c),j 0]) d:=by
 have s:=k.out.V8;have f:=n.b.o;have G:decide ((a:Int)<0)=false:=bL;have H:decide ((c:Int)<0)=false:=bL;have x:decide ((b.b.o.length:Int)< (c:Int))=false:=M;have A:decide ((b.b.o.length:Int)-c< (a:Int))=false:=M;have u:∃g,(∀d,(Instr.slice 64 (.slice (some ⟨e,0,none⟩) b.b.o.length b.b.o.length) (some (.int .i64 (a:Int))) (some (.int .i64 ((a:Int)+c))) none).run prog d=.ok (.slice (some ⟨e,g,none⟩) c (b.b.o.length-a)) d)/\(c=0\/g=a):=by
  have f:∀d,(Instr.slice 64 (.slice (some ⟨e,0,none⟩) b.b.o.length b.b.o.length) (some (.int .i64 (a:Int))) (some (.int .i64 ((a:Int)+c))) none).run prog d=.ok (.slice (if b.b.o.length=a then some ⟨e,0,none⟩else some ⟨e,a,none⟩) c (b.b.o.length-a)) d:=by
   intro d;have hu:prog.underlying 64=some (.slice (prog.elem 64)):=gX;have h:=run_slice_lh (P:=prog) d 64 (some ⟨e,0,none⟩) b.b.o.length b.b.o.length hu .i64 .i64 (a:Int) ((a:Int)+c) m m m;rw[h];have w:(_root_.Go.sizeOf (prog.elem 64)).run prog d=.ok 1 d:=gX;rw[w];simp only[Result.andThen,sliced];rw[show((a:Int)).toNat=a by omega,show((a:Int)+c).toNat=a+c by omega,oO,gQ,show(⟨e,0,none⟩:Addr).add a=⟨e,a,none⟩by(simp[Addr.add];intro h;exact h.symm),show a+c-a=c by omega]
  by_cases o:b.b.o.length=a
  . exact z1
  . exact z6
 obtain⟨g,v,q⟩:=u;have p:(convert 64 9 (.slice (some ⟨e,g,none⟩) c (b.b.o.length-a))).run prog d=.ok (.string (ji b.b.o a c)) d:=by
  refine um d 64 5 gP oD e g c (b.b.o.length-a) _ ad (fun i t=>?_) 9 h5;rcases q with F|rfl
  . omega
  . rw[k.out.o (g+i) (by omega)];simp[List.getD,rg,List.getElem?_take,oK,t,fa (show g+i<b.b.o.length by omega)]
 obtain⟨D,hS⟩:=y (ji b.b.o a c);rw[<-hS]at p|-;clear hS q;obtain⟨C,l⟩:=y (b.b.o.length);rw[<-l]at s f h x A v p;clear l k n;exact vV
end
def et (a b i:Nat):(aI a b).testBit i=(a.testBit i&&!b.testBit i):=by
 have d:a<2^(a+i+1):=aQ Nat.lt_two_pow_self (cV m m);have e:b%2^(a+i+1)<2^(a+i+1):=gb _ (lm _);rw[<-Fp a b (a+i+1) d,da,yN e,mJ];have c:i<a+i+1:=J;simp[c]
def kY (a:Nat):a/2048%4≠2↔ ¬(a.testBit 12=true/\a.testBit 11=false):=by
 rw[mK,mK];simp only[cA,mV];omega
def qK (d a:Nat)(b:Bool)(e:a.testBit 11=false)(f:a.testBit 12=false)(c:d/2048%4≠2):e1 d a b/2048%4≠2:=by
 rw[kY]at c|-;cases b<;>simp[e1,et,fE,e,f]<;>simpa using c
def ym (c a:Nat)(d:a.testBit 11=false)(e:a.testBit 12=false)(b:c/2048%4≠2):aI c a/2048%4≠2:=by
 rw[kY]at b|-;simp[et,d,e];simpa using b
def Vz (a mode:Nat)(b:a/2048%4≠2):h3 a mode/2048%4≠2:=by
 unfold h3;exact ym _ _ R R (qK _ _ _ R R (qK _ _ _ R R b))
def S9 (d mode:Nat)(a:mode=0\/mode=1\/mode=3):js d mode/2048%4≠2:=by
 unfold js c9;refine ym _ _ R R ?_;rw[kY];have b:Nat.testBit 6144 12=true:=cK;have c:Nat.testBit 6144 11=true:=cK;simp only[fE,da,et,b,c];rcases a with rfl|rfl|rfl
 . simp
 . simp;decide
 . simp;decide
def Vi (a:Nat)(b:a/2048%4≠2):ht a/2048%4≠2:=by
 unfold ht;exact qK _ 32 true R R (ym _ _ R R (qK _ _ _ R R b))
def S3 (b:Nat):h2 b/2048%4≠2:=by
 unfold h2;refine qK _ 128 true R R ?_;rw[kY];have a:Nat.testBit 6144 12=true:=cK;simp[et,a]
def VD (c n:Nat)(b:c/2048%4≠2):hv c n/2048%4≠2:=by
 unfold hv c9;rw[kY]at b;have j:Nat.testBit 8257962 12=false:=cK;have k:Nat.testBit 8257962 11=false:=cK;have l:Nat.testBit 8264106 12=true:=cK;have m:Nat.testBit 8264106 11=true:=cK;split
 . rw[kY];simp[fE,da,et,j,k];simpa using b
 . next f=>
   rw[kY];simp only[da,l,m,rC];rintro⟨g,h⟩;apply f;refine hw fun i=>?_;rw[da];by_cases e:i=12
   . subst e;rw[g];decide
   by_cases d:i=11
   . subst d;rw[h];decide
   have o:Nat.testBit 6144 i=false:=by
    have a:(6144:Nat)=2^12 |||2^11:=cK;rw[a,fE,uu,uu];simp;omega
   have p:Nat.testBit 4096 i=false:=by
    have a:(4096:Nat)=2^12:=cK;rw[a,uu];simp;omega
   rw[o,p];simp
def S0 (b e:Nat)(a:b/2048%4≠2):c9 b e 786722/2048%4≠2:=by
 unfold c9;rw[kY]at a|-;have c:Nat.testBit 786722 12=false:=cK;have d:Nat.testBit 786722 11=false:=cK;simp[fE,da,et,c,d];simpa using a
def xZ {a b:Nat}(c:a&&&b=a)(i:Nat):a.testBit i=(a.testBit i&&b.testBit i):=by rw[<-da,c]
def Es {a b:Nat}(c:∀i,a.testBit i=(a.testBit i&&b.testBit i)):a&&&b=a:=hw fun i=>by rw[da];exact(c i).symm
def tG {a b c:Nat}(d:a&&&c=a)(e:b&&&c=b):(a |||b)&&&c=a |||b:=by rw[yR,l0,yR c a,yR c b,d,e]
def lc {a:Nat}(b:Nat){c:Nat}(d:a&&&c=a):aI a b&&&c=aI a b:=by
 refine Es fun i=>?_;have:=xZ d i;rw[et];revert this;cases a.testBit i<;>cases b.testBit i<;>cases c.testBit i<;>simp
def j6 {a:Nat}(b:Nat){c:Nat}(d:a&&&c=a):(b&&&a)&&&c=b&&&a:=by rw[yS,d]
def qM {a k b:Nat}(c:Nat)(d:a&&&b=a)(e:k&&&b=k):c9 a c k&&&b=c9 a c k:=tG (lc _ d) (j6 _ e)
def qN {a b d:Nat}(c:Bool)(e:a&&&d=a)(f:b&&&d=b):e1 a b c&&&d=e1 a b c:=by
 cases c
 . exact lc _ e
 . exact tG e f
def sub_le {a b:Nat}(c:a&&&b=a):a<=b:=by rw[<-c];exact iR
def VA {a:Nat}(mode:Nat)(b:a&&&8264106=a):h3 a mode&&&8264106=h3 a mode:=lc _ (qN _ (qN _ b (by decide)) (by decide))
def Ta {a:Nat}(mode:Nat)(b:a&&&8264106=a):js a mode&&&8264106=js a mode:=lc _ (qM _ (qN _ b (by decide)) (by decide))
def Vk {a:Nat}(b:a&&&8264106=a):ht a&&&8264106=ht a:=tG (lc _ (qN _ b (by decide))) (by decide)
def S5 {a:Nat}(b:a&&&8264106=a):h2 a&&&8264106=h2 a:=by
 have c:gL a&&&8264106=gL a:=by
  unfold gL;split
  . exact b
  . exact lc _ b
 exact tG (lc _ (qN _ c R)) R
def VE {a:Nat}(b:Nat)(c:a&&&8264106=a):hv a b&&&8264106=hv a b:=by
 unfold hv;split
 . exact qM _ c R
 . exact j6 _ R
def word_lt (a:Int):am a<4294967296:=by unfold am;omega
def b2 {p:Prop}[Decidable p]{b c a:Nat}(d:b<a)(e:c<a):(if p then b else c)<a:=by split<;>assumption
def Pd (a b:Nat)(c:G a)(d:G b):ir a b<4294967296:=by unfold ir;exact gb _ (by decide)
def PA (a b:Nat)(c:G a)(d:G b):ny a b<4294967296:=by unfold ny;exact word_lt _
def Pw (a b:Nat)(c:G a)(d:G b):lY a b<4294967296:=by unfold lY;exact b2 (by decide) (by decide)
def Px (a b:Nat)(c:G a)(d:G b):lZ a b<4294967296:=by unfold lZ;exact b2 (by decide) (by decide)
def PC (a b:Nat)(c:G a)(d:G b):kF a b<4294967296:=by unfold kF;exact yM (n:=32) c d
def Pr (a b:Nat)(c:G a)(d:G b):kz a b<4294967296:=by unfold kz;exact ft a b 32 c d
def Pe (a b:Nat)(c:G a)(d:G b):ku a b<4294967296:=by unfold ku;exact bJ gN c
def Pv (a b:Nat)(c:G a)(d:G b):kC a b<4294967296:=by unfold kC;exact gb _ (by decide)
def Pz (a b:Nat)(c:G a)(d:G b):kE a b<4294967296:=by unfold kE;exact bJ (lq _ _) c
def Py (a b:Nat)(c:G a)(d:G b):kD a b<4294967296:=by unfold kD;exact word_lt _
def Pn (a b:Nat)(c:G a)(d:G b):kx a b<4294967296:=by unfold kx;exact gb _ (by decide)
def Po (a b:Nat)(c:G a)(d:G b):nw a b<4294967296:=by unfold nw;exact word_lt _
def Pp (a b:Nat)(c:G a)(d:G b):nx a b<4294967296:=by unfold nx;exact word_lt _
def Pq (a b:Nat)(c:G a)(d:G b):ky a b<4294967296:=by unfold ky;exact(Nat.div_lt_iff_lt_mul (by decide)).2 (Nat.mul_lt_mul'' c d)
def Pf (a b:Nat)(c:G a)(d:G b):kv a b<4294967296:=by unfold kv;exact b2 (by decide) (word_lt _)
def Pg (a b:Nat)(c:G a)(d:G b):kw a b<4294967296:=by unfold kw;exact b2 (by decide) (bJ (lq _ _) c)
def Pt (a b:Nat)(c:G a)(d:G b):kA a b<4294967296:=by unfold kA;exact b2 c (word_lt _)
def Pu (a b:Nat)(c:G a)(d:G b):kB a b<4294967296:=by unfold kB;exact b2 c (bJ (Nat.mod_le _ _) c)
def PB (a b:Nat)(d:G a)(c:G b):p5 a b<4294967296:=by unfold p5;exact c
def Pl (a b:Nat)(c:G a)(d:G b):p3 a b<4294967296:=by unfold p3;exact b2 c d
def Pj (a b:Nat)(c:G a)(d:G b):p1 a b<4294967296:=by unfold p1;exact b2 c d
def Pm (a b:Nat)(c:G a)(d:G b):p4 a b<4294967296:=by unfold p4;exact b2 c d
def Pk (a b:Nat)(c:G a)(d:G b):p2 a b<4294967296:=by unfold p2;exact b2 c d
def sK (e:Int)(a b:Nat)(c:G a)(d:G b):co e a b<4294967296:=by
 unfold co;refine b2 (Pd a b c d) ?_;refine b2 (PA a b c d) ?_;refine b2 (Pw a b c d) ?_;refine b2 (Px a b c d) ?_;refine b2 (PC a b c d) ?_;refine b2 (Pr a b c d) ?_;refine b2 (Pe a b c d) ?_;refine b2 (Pv a b c d) ?_;refine b2 (Pz a b c d) ?_;refine b2 (Py a b c d) ?_;refine b2 (Pn a b c d) ?_;refine b2 (Po a b c d) ?_;refine b2 (Pp a b c d) ?_;refine b2 (Pq a b c d) ?_;refine b2 (Pf a b c d) ?_;refine b2 (Pg a b c d) ?_;refine b2 (Pt a b c d) ?_;refine b2 (Pu a b c d) ?_;refine b2 (PB a b c d) ?_;refine b2 (Pl a b c d) ?_;refine b2 (Pj a b c d) ?_;refine b2 (Pm a b c d) ?_;refine b2 (Pk a b c d) ?_;decide
def QK (c:P)(b:Q)(a:Nat)(d:G a):(br c b a).1.w<4294967296/\(br c b a).1.Yn<4294967296/\(br c b a).1.f<=2:=by
 have e:=sZ c b a d;have f:=sZ (cj c b a).2 b ((a+2)%4294967296) (gb _ R);unfold br;exact Ae
def tE (a:ai):K:=((((iE a.x 32 0 (ar a.V3 4)++(if a.wait=true then⟨#[119]⟩else⟨#[45]⟩))++(if a.res=0 then⟨#[45]⟩else⟨#[114]⟩))++ar a.res 5)++ho a.f 23)++k6 a.b
def Below.k {a b:D}(c:Below a.heap.size a b):Kept [] a b:=Below.kept c []
def Vc (a:P)(b:aS a):(k6 a).size<=100:=by
 have d:=b.rx;have e:=b.Wc;have c:(if a.lost=true then(⟨#[33]⟩:K)else⟨#[46]⟩).size=1:=by cases a.lost<;>rfl
 unfold k6;simp only[fl,bs,c];omega
def adY (i g h u k:Nat)(a:ai)(n:ey a)(P:D)(O:Hid (V P i g h u k a)):
 aE 178 #[I i] (.string (tE a)) P:=by
 have A:=fun W=>l (mC (a.V3:Int) W);have L4:=fun W=>l (abO (a.res:Int) W);have S:=fun W (F:V W i g h u k a)=>l (ac3 h g a.f n.f W (l F.WW));have T:=fun W (F:V W i g h u k a)=>l (acp g k a.b n.b W (l F.Wt));have y1:=bs (a.V3:Int) 4;have y4:=bs (a.res:Int) 5;have ap:=DR a.f 23;have aq:=Vc a.b n.b;obtain⟨an,ae⟩:=y (ar a.V3 4);obtain⟨aQ,af⟩:=y (ar a.res 5);obtain⟨u5,ag⟩:=y (ho a.f 23);obtain⟨aR,aj⟩:=y (k6 a.b);unfold tE;simp only[<-ae,<-af,<-ag,<-aj]at A L4 S T y1 y4 ap aq|-;clear ae af ag aj n;obtain⟨e,o⟩:=y (iE a.x 32 0 an);have a8:e.size=132:=by rw[o,tv];omega
 rw[<-o];have U:=l o;clear o;obtain⟨ao,r⟩:=y ((if a.wait=true then(⟨#[119]⟩:K)else⟨#[45]⟩));obtain⟨u3,s⟩:=y ((if a.res=0 then(⟨#[45]⟩:K)else⟨#[114]⟩));have y2:ao.size=1:=by rw[r];split<;>rfl
 have y3:u3.size=1:=by rw[s];split<;>rfl
 rw[<-r,<-s];obtain⟨aM,Y,aT,ay⟩:=bi e ao m;obtain⟨aN,Z,aU,az⟩:=bi aM u3 m;obtain⟨aO,aa,aV,aA⟩:=bi aN aQ m;obtain⟨aP,ab,aW,aB⟩:=bi aO u5 m;obtain⟨a5,ac,aX,aC⟩:=bi aP aR m;rw[<-Y,<-Z,<-aa,<-ab,<-ac];clear Y Z aa ab ac aT aU aV aW aX y2 y3 y4 ap aq;have Q:=l r;have R:=l s;clear r s;have c3:=O.out.c3;go_enter func178,ntmps178;go_wp2_with fail;refine(A _).out.mono ?_;rintro aG a6 ⟨rfl,H⟩;have am:=l (O.out.kept (Below.k H));have al:=l (Below.k H);clear H A c3 O;go_wp2_with fail;go_loopw [3,4] (fun aD E wr=>∃(b:Nat) (f:K),b<=32/\aD=.string f/\E=j b/\Hid (f.size=4+4*b)/\Hid (V wr i g h u k a)/\Hid (Kept [] P wr)/\Hid (e=iE a.x (32-b) b f)) (fun _ E _=>32- (intOf E).toNat);case atStart=>exact⟨0,an,by omega,rfl,rfl,l m,am,al,U⟩
 case round=>
  obtain⟨b,f,a3,rfl,rfl,q,d,w,p⟩:=hrel;clear U am al;by_cases aK:b<32
  . have ax:decide ((b:Int)<32)=true:=M;have aF:=d.out.XM b aK;have d2:=d.out.c2;obtain⟨c,N⟩:=y (a.x.getD b 0);have G:Hid (e=iE a.x (32- (b+1)) (b+1) (f++ar c 4)):=by
     show e=_;rw[p.out,show 32-b=(32- (b+1))+1 by omega,N];rfl
    rw[<-N]at aF;clear N p;have C:=fun W=>l (mC (c:Int) W);have au:=bs (c:Int) 4;obtain⟨aS,L⟩:=y (ar (c:Int) 4);rw[<-L]at G au;simp only[<-L]at C;clear L;obtain⟨t2,ad,aY,a2⟩:=bi f aS (by have:=q.out;omega);rw[<-ad]at G;have aL:Hid (t2.size=4+4* (b+1)):=l (by have:=q.out;omega);clear ad aY q au ay az aA aB aC;go_wp2_with fail;refine(C _).out.mono ?_;rintro aG a7 ⟨rfl,J⟩;have aI:=l (d.out.kept (Below.k J));have aJ:=l (w.out.trans (Below.k J));clear J C d w;go_wp2_with fail;go_roundw;case rel=>exact⟨b+1,t2,by omega,by first|rfl|go_num,by go_num,aL,aI,aJ,G⟩
    case measure=>exact a4
  . have ax:decide ((b:Int)<32)=false:=M;have ak:Hid (e=f):=by show e=_;rw[p.out,show 32-b=0 by omega];rfl
    clear p q;have aH:=ak.out;subst aH;clear ak;have X:=d.out.c4;have aZ:=d.out.c5;cases t:a.wait
    . rw[t]at X;have v:=Q.out;rw[t,z (by decide)]at v;exact Mc
    . rw[t]at X;have v:=Q.out;rw[t,B (by decide)]at v;exact Mc
namespace u
def hP (a:Nat)(i:U):List L:=
 if a=100 then cZ i.rd.toNat else if a=115 then cZ i.V1.toNat else if a=116 then cZ i.V6.toNat else if a=117 then Lib.itoa i.V1
 else if a=109 then Lib.itoa i.V2++40::(cZ i.V1.toNat++[41])else Lib.itoa i.V2
def gE :List Nat->Bool->U->List L
 |[],_,_=>[]
 |a::b,c,i=>(if c then[44,32]else[32])++(hP a i++gE b true i)
end u
structure i8 (i:U):Prop where
 d0:0<=i.rd
 d1:i.rd<32
 YT:0<=i.V1
 s1:i.V1<32
 t0:0<=i.V6
 t1:i.V6<32
 i0:-10000000000<i.V2
 YU:i.V2<10000000000
end Go.Proofs.YtmlgonbhoknoiabGreatDoor
